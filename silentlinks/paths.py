"""Paths and walls."""

from silentlinks.amounts import is_row
from silentlinks.nets import alive_house, is_alive


def steps_over(rows, house):
    """The least number of steps from house to each house, None where there is no way.

    rows tells for each house to which ones a step leads.
    """
    found = [None] * len(rows)
    found[house] = 0
    queue = [house]
    at = 0
    while at < len(queue):
        here = queue[at]
        at += 1
        for there in rows[here]:
            if found[there] is None:
                found[there] = found[here] + 1
                queue.append(there)
    return found


def told_houses(steps):
    """The houses for which there is a number of steps, ascending."""
    return tuple([house for house, many in enumerate(steps) if many is not None])


def reached(net, house):
    """All houses that house reaches, ascending."""
    return told_houses(steps_over(net.onward, alive_house(net, house)))


def reaches(net, first, other):
    """Whether first reaches other."""
    found = reached(net, first)
    return alive_house(net, other) in found


def path(net, first, other):
    """The first of the shortest paths from first to other, None if there is none."""
    alive_house(net, first)
    left = steps_over(net.backward, alive_house(net, other))
    if left[first] is None:
        return None
    row = [first]
    while row[-1] != other:
        row.append(nearer_house(net, row[-1], left))
    return tuple(row)


def nearer_house(net, house, left):
    """The least house behind a link from house that has one step less left than house."""
    return min([there for there in net.onward[house] if left[there] == left[house] - 1])


def wall(net, first, other):
    """The least wall from first to other, None if there is a path."""
    found = reached(net, first)
    return None if alive_house(net, other) in found else found


def is_alive_row(net, row):
    """Whether row, of any kind, is a list or tuple of alive houses, none twice."""
    if not is_row(row):
        return False
    found = []
    for value in row:
        if not is_alive(net, value) or value in found:
            return False
        found.append(value)
    return True


def path_holds(net, first, other, row):
    """Whether row, of any kind, is a path from first to other."""
    alive_house(net, first)
    alive_house(net, other)
    if not is_alive_row(net, row) or len(row) == 0:
        return False
    if row[0] != first or row[-1] != other:
        return False
    return all([net.lasts(row[at], row[at + 1]) for at in range(len(row) - 1)])


def wall_holds(net, first, other, row):
    """Whether row, of any kind, is a wall from first to other."""
    alive_house(net, first)
    alive_house(net, other)
    if not is_alive_row(net, row):
        return False
    if first not in row or other in row:
        return False
    return not any([a in row and b not in row for a, b in net.links])
