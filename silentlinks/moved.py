"""The order of the history of a memory that moves."""

from silentlinks.moving import VALID, valid_tours
from silentlinks.numbering import deed_tours, record_at
from silentlinks.tours import tours_in


def moved_tours(world, at):
    """The tours of a deed in the log, in order, then the running one, if there is one."""
    return deed_tours(world, at)


def valid_of(world, at):
    """The valid tours of a deed, in order."""
    tours = moved_tours(world, at)
    return [] if len(tours) == 0 else valid_tours(tours, tours[0][0])


def stamp_moved(world, at):
    """The stamp that a put has made, or whose value an ended get answered; otherwise None."""
    house, deed, _, ended, _ = record_at(world, at)
    tours, valid = moved_tours(world, at), valid_of(world, at)
    if deed[0] == "get" and ended is not None:
        return tours[-1][3][0][deed[1]][:3]
    if deed[0] == "put" and len(valid) > 0 and tours[-1] != valid[0]:
        return (valid[0][1], valid[0][4] + 1, house)
    return None


def valid_in(world):
    """All valid tours in the logs of all houses."""
    return [tour for house, tour in tours_in(world) if tour[7] == VALID]


def least_of(tours, place, stamp):
    """The least pair of these valid tours whose PUT has at a register at least this stamp, None if there is none."""
    if stamp == (0, 0, -1):
        return (0, 0)
    return min([(tour[1], tour[4]) for tour in tours if tour[3][0][place][:3] >= stamp], default=None)


def least_pair(world, place, stamp):
    """The least pair of a stamp at a register."""
    return least_of(valid_in(world), place, stamp)


def pair_of_deed(world, valid, at):
    """The pair at which a deed stands among all these valid tours, None if it stands nowhere."""
    deed = record_at(world, at)[1]
    stamp = stamp_moved(world, at)
    if stamp is None:
        return None
    least = least_of(valid, deed[1], stamp)
    if deed[0] == "put":
        return least
    first = valid_of(world, at)[0]
    return max((first[1], first[4]), least)


def place_pairs(world):
    """For each position of the history the pair at which its deed stands, or None."""
    valid = valid_in(world)
    return tuple([pair_of_deed(world, valid, at) for at in range(len(world.history()))])


def is_remembered(record):
    """Whether a record is that of a get or a put."""
    return record[1][0] in ("get", "put")


def memory_history(world):
    """The records of the gets and puts of the history, in order."""
    return tuple([record for record in world.history() if is_remembered(record)])


def rank(world, valid, at, pair):
    """By what a deed that stands at this pair is ordered, its position in the history last."""
    deed, stamp = record_at(world, at)[1], stamp_moved(world, at)
    if deed[0] == "put":
        return (pair, 0, deed[1], stamp, 0, at)
    if least_of(valid, deed[1], stamp) == pair:
        return (pair, 0, deed[1], stamp, 1, at)
    return (pair, 1, 0, (0, 0, 0), 0, at)


def order_by_pairs(world):
    """The positions in memory_history of the deeds that stand somewhere, by their pairs."""
    valid = valid_in(world)
    pairs = list(enumerate(place_pairs(world)))
    rows = [rank(world, valid, at, pair) for at, pair in pairs if pair is not None]
    remembered = [at for at, record in enumerate(world.history()) if is_remembered(record)]
    return tuple([remembered.index(row[-1]) for row in sorted(rows)])
