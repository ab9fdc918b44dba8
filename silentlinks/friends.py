"""Which places of a book see each other."""

from silentlinks.amounts import is_below, is_row, meet
from silentlinks.errors import NotAPlace
from silentlinks.nets import net_of
from silentlinks.parts import part, parts, past


def named_place(book, value):
    """The tuple of a pattern number and a house that value names, None if it names none."""
    if not is_row(value) or len(value) != 2:
        return None
    if not is_below(value[0], len(book)) or not is_below(value[1], book.houses):
        return None
    return (value[0], value[1])


def stands_at(book, pair):
    """Whether the house of this pair of a pattern number and a house is alive in the pattern."""
    return pair[1] not in book[pair[0]].fallen


def place_of(book, value, at):
    """The place that value names; NotAPlace(at) if it, of any kind, names none."""
    pair = named_place(book, value)
    if pair is None or not stands_at(book, pair):
        raise NotAPlace(at)
    return pair


def sight(book, place):
    """The past and the part of a place."""
    net = net_of(book, place[0])
    return (past(net, place[1]), part(net, place[1]))


def sights(book, places):
    """The past and the part of each of these places, a list."""
    nets = [net_of(book, number) for number in range(len(book))]
    return [(past(nets[number], house), part(nets[number], house)) for number, house in places]


def see_each_other(first, other):
    """Whether places with these pasts and parts are friends."""
    return meet(first[0], other[1]) and meet(other[0], first[1])


def sees(book, place, other):
    """Whether place sees other."""
    seer = place_of(book, place, 0)
    seen = place_of(book, other, 1)
    return meet(sight(book, seer)[0], sight(book, seen)[1])


def are_friends(book, place, other):
    """Whether each of two places sees the other one."""
    return blind(book, place, other) is None


def blind(book, place, other):
    """Which of two foes does not see the other one, and why; None for friends."""
    seer = place_of(book, place, 0)
    seen = place_of(book, other, 1)
    from_seer = sight(book, seer)
    from_seen = sight(book, seen)
    if not meet(from_seer[0], from_seen[1]):
        return (seer, seen, from_seer[0], from_seen[1])
    if not meet(from_seen[0], from_seer[1]):
        return (seen, seer, from_seen[0], from_seer[1])
    return None


def first_foes(book, places):
    """The first pair of places, ascending, that are foes; None if there is none."""
    known = sights(book, places)
    for at in range(len(places)):
        for later in range(at + 1, len(places)):
            if not see_each_other(known[at], known[later]):
                return (places[at], places[later])
    return None


def part_places(book):
    """A tuple (number, part) for each part of each pattern, by number, then by its least house."""
    rows = []
    for number in range(len(book)):
        for houses in parts(net_of(book, number)):
            rows.append((number, houses))
    return tuple(rows)


def friend_table(book):
    """For each two members of part_places whether places of their parts are friends."""
    known = sights(book, [(number, houses[0]) for number, houses in part_places(book)])
    return tuple([tuple([see_each_other(first, other) for other in known]) for first in known])
