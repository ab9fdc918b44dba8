"""The places that lots serve, and in what times."""

from silentlinks.claims import Claim, all_places
from silentlinks.echoes import distances_to, round_trips
from silentlinks.lots import check_same_houses
from silentlinks.nets import net_of


def served(lots, book):
    """The Claim of all places of the book that the lots serve."""
    check_same_houses(lots, book)
    nets = [net_of(book, number) for number in range(len(book))]
    return Claim(book, [(number, house) for number, house in all_places(book) if lots.serves(nets[number], house)])


def lot_time(lot, times):
    """The greatest of the times of the members of a lot, None if one has none."""
    found = [times[house] for house in lot]
    return None if None in found else max(found)


def least_time(rows, times):
    """The least time of a lot of rows, None if no lot has one."""
    found = [lot_time(lot, times) for lot in rows]
    return min([time for time in found if time is not None], default=None)


def echo_time(lots, net, house):
    """The echo time of house, None if no asked lot lies in its part."""
    check_same_houses(lots, net)
    return least_time(lots.asked, round_trips(net, house))


def push_time(lots, net, house):
    """The push time of house, None if no heard lot lies in its past."""
    check_same_houses(lots, net)
    return least_time(lots.heard, distances_to(net, house))


def first_asked(lots, net, house):
    """The first asked lot within the echo of house at its echo time, None if there is none."""
    limit = echo_time(lots, net, house)
    if limit is None:
        return None
    times = round_trips(net, house)
    return [lot for lot in lots.asked if lot_time(lot, times) == limit][0]


def back_time(lots, net, house):
    """The back time of house, None if no asked lot lies in its part."""
    limit = echo_time(lots, net, house)
    if limit is None or limit == 0:
        return limit
    times = distances_to(net, house)
    return min([max(1, times[x]) for x in first_asked(lots, net, house)])


def wait_time(lots, net, house):
    """How many rounds a tour goes on behind its echo, None if the lots do not serve house."""
    push = push_time(lots, net, house)
    back = back_time(lots, net, house)
    return None if push is None or back is None else max(0, push - back)


def tour_rounds(lots, net, house):
    """In how many rounds a tour of house ends, None if the lots do not serve it."""
    wait = wait_time(lots, net, house)
    return None if wait is None else 1 + echo_time(lots, net, house) + wait


def put_rounds(lots, net, house):
    """In how many rounds a put of house ends, None if the lots do not serve it."""
    wait = wait_time(lots, net, house)
    if wait is None:
        return None
    echoed = echo_time(lots, net, house)
    return 1 + max(1, echoed) + echoed + wait
