"""Papers against machines that are to keep a claim."""

from silentlinks.amounts import meet
from silentlinks.choices import full_claim
from silentlinks.claims import Claim, all_places
from silentlinks.echoes import echo, round_trips
from silentlinks.errors import NotAPlace
from silentlinks.friends import are_friends, blind, named_place, sees, sights
from silentlinks.getfirst import get_first
from silentlinks.lone import check_patience, lone_round
from silentlinks.nets import net_of
from silentlinks.parts import past
from silentlinks.putfirst import GET, PUT, lone_mute, put_first


def least_rounds(claim, place):
    """The least round of a place of the claim, None if there is none; NotAPlace(0) if it is none of the claim."""
    pair = named_place(claim.book, place)
    if pair is None or pair not in claim.places:
        raise NotAPlace(0)
    trips = round_trips(net_of(claim.book, pair[0]), pair[1])
    times = [least_trip(trips, row[0]) for row in sights(claim.book, claim.places)]
    return None if None in times else 1 + max(times)


def least_trip(trips, houses):
    """The least of the round trips told for these houses, None if there is none."""
    return min([trips[house] for house in houses if trips[house] is not None], default=None)


def break_claim(machine, claim, *, patience=24):
    """A paper against the machine; None if the claim is keepable."""
    check_patience(patience)
    pair = claim.foes()
    if pair is None:
        return None
    seer, seen, _, _ = blind(claim.book, pair[0], pair[1])
    return put_first(machine, claim.book, seen, seer, patience)


def asked_alone(machine, book, place, deed, patience):
    """The round of the lone run in which the deed of a place is answered, or None."""
    return lone_round(machine, net_of(book, place[0]), place[1], deed, patience)


def first_unmet(claim, place, rounds):
    """The first claimed place whose past does not meet the echo of a place in less than so many rounds."""
    book = claim.book
    houses = echo(net_of(book, place[0]), place[1], rounds - 1)
    return [pair for pair in claim.places if not meet(past(net_of(book, pair[0]), pair[1]), houses)][0]


def is_too_quick(rounds, least):
    """Whether an answer in this round comes ahead of the least round; never if one of the two is None."""
    return rounds is not None and least is not None and rounds < least


def hasty(machine, claim, *, patience=24):
    """The paper of the first lone deed of a claimed place that is answered ahead of its least round, or None."""
    check_patience(patience)
    book = claim.book
    for place in claim.places:
        least = least_rounds(claim, place)
        # A place without a least round gives no paper, but its deeds are asked, so that a refusal of one goes through.
        rounds = asked_alone(machine, book, place, PUT, patience)
        if is_too_quick(rounds, least):
            return put_first(machine, book, place, first_unmet(claim, place, rounds), patience)
        rounds = asked_alone(machine, book, place, GET, patience)
        if is_too_quick(rounds, least):
            return get_first(machine, book, place, first_unmet(claim, place, rounds), patience)
    return None


def is_measured(machine, book, place, patience):
    """Whether the lone put of a place is answered, and its lone get, too."""
    if asked_alone(machine, book, place, PUT, patience) is None:
        return False
    return asked_alone(machine, book, place, GET, patience) is not None


def measured(machine, book, *, patience=24):
    """The Claim of all places whose lone put and whose lone get are answered."""
    check_patience(patience)
    return Claim(book, [place for place in all_places(book) if is_measured(machine, book, place, patience)])


def place_mute(machine, book, place, patience):
    """The Mute of a place that is not measured: of its lone put if that is not answered, else of its lone get."""
    if asked_alone(machine, book, place, PUT, patience) is None:
        return lone_mute(machine, book, place, PUT, patience)
    return lone_mute(machine, book, place, GET, patience)


def break_book(machine, book, *, patience=24):
    """Papers against a machine for a book without a full claim, with a pattern's number or -1; otherwise None."""
    check_patience(patience)
    if full_claim(book) is not None:
        return None
    claim = measured(machine, book, patience=patience)
    chosen = []
    for number in range(len(book)):
        houses = claim.houses_at(number)
        if len(houses) == 0:
            places = [place for place in all_places(book) if place[0] == number]
            return (number, tuple([place_mute(machine, book, place, patience) for place in places]))
        chosen.append((number, houses[0]))
    return (-1, (break_claim(machine, Claim(book, chosen), patience=patience),))


def break_sides(machine, book, writers, readers, *, patience=24):
    """The paper of the first writer's and reader's place that are foes; None if all are friends."""
    first = Claim(book, writers)
    other = Claim(book, readers)
    check_patience(patience)
    for place in first.places:
        for pair in other.places:
            if not are_friends(book, place, pair):
                if not sees(book, pair, place):
                    return put_first(machine, book, place, pair, patience)
                return get_first(machine, book, pair, place, patience)
    return None
