"""In which view and stretch a wish is answered at the latest."""

from silentlinks.amounts import check_number, lies_in
from silentlinks.echoes import distances, distances_to
from silentlinks.lots import check_same_houses
from silentlinks.parts import part, past
from silentlinks.served import push_time
from silentlinks.viewing import view_at, view_start


def accept_time(lots, net, house, leader):
    """In how many stretches at the least an asked lot has accepted the leader's row and told house of it."""
    members = part(net, house)
    there, back = distances(net, leader), distances_to(net, house)
    rows = [lot for lot in lots.asked if lies_in(lot, members)]
    return min([max([there[x] + max(1, back[x]) for x in lot]) for lot in rows])


def first_view_of(houses, leader, least):
    """The first view of a leader that is not below least."""
    return least + (leader - least) % houses


def view_told(lots, base, net, house, leader, clocks):
    """The first view of a leader that is late and long enough, and in how many stretches behind its begin it answers.

    A tuple (view, stretches).
    """
    known = [clocks[x] for x in past(net, house)]
    spread = max(known) - min(known)
    stretches = push_time(lots, net, leader) + accept_time(lots, net, house, leader)
    # The view must begin behind the clock of the leader by more than the distance, and last longer than all takes.
    late = view_at(base, clocks[leader] + distances(net, house)[leader]) + 1
    least = max(late, spread + stretches - base + 1)
    return (first_view_of(net.houses, leader, least), stretches)


def told_stretch(lots, base, net, house, clocks):
    """The view and the stretch in which a deed of house is answered at the latest, None if the lots do not serve it."""
    check_same_houses(lots, net)
    check_number(base, "base", 1)
    if not lots.serves(net, house):
        return None
    rows = [view_told(lots, base, net, house, leader, clocks) for leader in part(net, house)]
    view, stretches = min(rows)
    return (view, view_start(base, view) - min([clocks[x] for x in past(net, house)]) + stretches)
