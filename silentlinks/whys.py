"""Why a deed waits, and whether lots serve a house."""

from silentlinks.amounts import house_of, lies_in, without
from silentlinks.errors import NotTouring
from silentlinks.lots import check_same_houses
from silentlinks.parts import part, past
from silentlinks.served import echo_time, push_time
from silentlinks.tours import Touring


def touring_state(world, house):
    """The state of a house in a world of a touring machine; NotTouring(), then BadHouse(house)."""
    if not isinstance(world.machine, Touring):
        raise NotTouring()
    return world.state(house_of(world.houses, house))


def why(world, house):
    """Why the deed in progress at house waits."""
    board, deed, _, running, _ = touring_state(world, house)
    if deed is None:
        return ("idle",)
    if running is None:
        return ("card",)
    lots = world.machine.lots_for(deed)
    first, number = running[2], running[4]
    if number is None:
        return ("echo", lacking_rows(lots.asked, [card[1][house] for card in board], first))
    return ("past", number, lacking_rows(lots.heard, [card[0] for card in board], number))


def lacking_rows(rows, known, least):
    """For each lot a tuple of it and those of its members for which less is known."""
    return tuple([(lot, tuple([x for x in lot if known[x] < least])) for lot in rows])


def what_serves(lots, net, house):
    """The asked lots within the part of house, and the heard lots within its past."""
    check_same_houses(lots, net)
    inner, ahead = part(net, house), past(net, house)
    asked = [lot for lot in lots.asked if lies_in(lot, inner)]
    return (tuple(asked), tuple([lot for lot in lots.heard if lies_in(lot, ahead)]))


def outside_rows(rows, houses):
    """For each lot a tuple of it and those of its members that are not among these houses."""
    return tuple([(lot, without(lot, houses)) for lot in rows])


def fate(lots, net, house):
    """Whether the lots serve house, and in what times, or what their lots lack for it."""
    asked, heard = what_serves(lots, net, house)
    if len(asked) == 0:
        return ("asked", outside_rows(lots.asked, part(net, house)))
    if len(heard) == 0:
        return ("heard", outside_rows(lots.heard, past(net, house)))
    return ("served", echo_time(lots, net, house), push_time(lots, net, house))
