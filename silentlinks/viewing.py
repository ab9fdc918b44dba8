"""Views of clocks, and their leaders."""

from math import isqrt

from silentlinks.amounts import check_number


def view_start(base, view):
    """The clock at which a view begins."""
    check_number(base, "base", 1)
    check_number(view, "view", 0)
    return base * view + view * (view - 1) // 2


def view_at(base, clock):
    """The view of a clock."""
    check_number(base, "base", 1)
    check_number(clock, "clock", 0)
    # The view is the greatest root of view_start(base, view) = clock, rounded down.
    double = 2 * base - 1
    return (isqrt(double * double + 8 * clock) - double) // 2


def leader_of(houses, view):
    """The leader of a view."""
    return view % houses
