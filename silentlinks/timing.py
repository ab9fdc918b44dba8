"""When tours are echoed and end."""

from silentlinks.amounts import check_number
from silentlinks.echoes import distances_to
from silentlinks.served import back_time, echo_time, lot_time, push_time


def told_tour(lots, net, house, begin):
    """The round in which a tour of the round begin is echoed, its NUMBER and the round in which it ends.

    None if the lots do not serve house.
    """
    echoed = echo_time(lots, net, house)
    check_number(begin, "begin", 1)
    push, back = push_time(lots, net, house), back_time(lots, net, house)
    if echoed is None or push is None:
        return None
    return (begin + echoed, begin + echoed - back, begin + echoed + max(0, push - back))


def echo_stretch(lots, net, house):
    """The stretch in which a tour of house is echoed at the latest, None if no asked lot lies in its part."""
    echoed = echo_time(lots, net, house)
    return None if echoed is None else echoed + 1


def late_stretch(lots, net, house, number, clocks):
    """The stretch in which a tour of this NUMBER ends at the latest, None if the lots do not serve house."""
    echoed, push = echo_time(lots, net, house), push_time(lots, net, house)
    if echoed is None or push is None:
        return None
    times = distances_to(net, house)
    lot = [lot for lot in lots.heard if lot_time(lot, times) == push][0]
    return echoed + 1 + max([1] + [number - clocks[x] for x in lot]) + push
