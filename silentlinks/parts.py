"""Pasts and parts."""

from silentlinks.amounts import common
from silentlinks.nets import alive_house
from silentlinks.paths import reached, steps_over, told_houses


def past(net, house):
    """All houses that reach house, ascending."""
    return told_houses(steps_over(net.backward, alive_house(net, house)))


def part(net, house):
    """All houses that reach house and that house reaches, ascending."""
    return common(past(net, house), reached(net, house))


def parts(net):
    """All parts, ordered by their least houses."""
    rows = []
    told = {}
    for house in net.alive:
        if house not in told:
            houses = part(net, house)
            rows.append(houses)
            for x in houses:
                told[x] = True
    return tuple(rows)


def is_first(net, houses, left):
    """Whether no other one of the parts left reaches the part of these houses."""
    ahead = past(net, houses[0])
    return not any([other != houses and other[0] in ahead for other in left])


def ordered_parts(net):
    """All parts, none of which reaches an earlier one; of those free to come next the least."""
    rows = []
    left = list(parts(net))
    while len(left) > 0:
        free = [houses for houses in left if is_first(net, houses, left)]
        rows.append(free[0])
        left = [houses for houses in left if houses != free[0]]
    return tuple(rows)


def majority_part(net):
    """The part with more than half of all houses, None if there is none."""
    for houses in parts(net):
        if 2 * len(houses) > net.houses:
            return houses
    return None
