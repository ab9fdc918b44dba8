"""Papers against machines that are to agree."""

from silentlinks.amounts import same_value
from silentlinks.friends import blind
from silentlinks.lone import check_patience, lone_answered
from silentlinks.nets import net_of
from silentlinks.papers import Odd
from silentlinks.putfirst import behind_writer, lone_mute
from silentlinks.worlds import run

FIRST = ("propose", 1)
LATER = ("propose", 2)


def break_agreement(machine, claim, *, patience=24):
    """A paper against the agreement of the machine; None if the claim is keepable."""
    check_patience(patience)
    pair = claim.foes()
    if pair is None:
        return None
    book = claim.book
    seer, seen, _, _ = blind(book, pair[0], pair[1])
    schedule = lone_answered(machine, net_of(book, seen[0]), seen[1], FIRST, patience)
    if schedule is None:
        return lone_mute(machine, book, seen, FIRST, patience)
    if not same_value(run(machine, schedule).history()[0][4], 1):
        return Odd(book, schedule, seen[0], seen[1])
    # No house of the seer's past hears of the first deed, since the seer does not see the seen place.
    return behind_writer(machine, book, schedule, seer, LATER, patience)
