"""Numbers, houses, links and ascending tuples."""

from silentlinks.errors import BadHouse, BadHouses, BadLinks, BadNumber, BadSet

MOST_HOUSES = 7


def is_number(value):
    """Whether value, of any kind, is a number: an int other than True and False."""
    return isinstance(value, int) and not isinstance(value, bool)


def is_below(value, limit):
    """Whether value is a number from 0, and below the limit unless that is None."""
    return is_number(value) and value >= 0 and (limit is None or value < limit)


def is_row(value):
    """Whether value is a list or a tuple."""
    return isinstance(value, (list, tuple))


def check_number(value, name, least):
    """The value; BadNumber(name) if it is no number, or is below a least that is not None."""
    if not is_number(value) or (least is not None and value < least):
        raise BadNumber(name)
    return value


def house_count(value):
    """The value; BadHouses() unless it is a number from 1 to 7."""
    if not is_number(value) or value < 1 or value > MOST_HOUSES:
        raise BadHouses()
    return value


def house_of(houses, value):
    """The value; BadHouse(value) unless it is a house below houses."""
    if not is_below(value, houses):
        raise BadHouse(value)
    return value


def house_set(houses, row):
    """The houses of row, ascending; BadSet(at) if it is no set of houses.

    A houses of None sets no upper bound.
    """
    if not is_row(row):
        raise BadSet(-1)
    found = {}
    for at, value in enumerate(row):
        if not is_below(value, houses) or value in found:
            raise BadSet(at)
        found[value] = True
    return tuple(sorted(found))


def link_of(houses, value):
    """The link that a list or tuple of two houses names, a tuple; None if value is none."""
    if not is_row(value) or len(value) != 2:
        return None
    if not is_below(value[0], houses) or not is_below(value[1], houses):
        return None
    if value[0] == value[1]:
        return None
    return (value[0], value[1])


def link_set(houses, row):
    """The links of row as tuples, ascending; BadLinks(at) if it is no set of links.

    A houses of None sets no upper bound.
    """
    if not is_row(row):
        raise BadLinks(-1)
    found = {}
    for at, value in enumerate(row):
        link = link_of(houses, value)
        if link is None or link in found:
            raise BadLinks(at)
        found[link] = True
    return tuple(sorted(found))


def all_links(houses):
    """All links between the houses below houses, ascending."""
    return tuple([(a, b) for a in range(houses) for b in range(houses) if a != b])


def merged(first, second):
    """What is in one or both of two ascending tuples, ascending."""
    return tuple(sorted(set(first) | set(second)))


def common(first, second):
    """What is in both of two ascending tuples, ascending."""
    return tuple(sorted(set(first) & set(second)))


def without(first, second):
    """What is in the first but not in the second of two ascending tuples, ascending."""
    return tuple(sorted(set(first) - set(second)))


def meet(first, second):
    """Whether two tuples have a member in common."""
    return any([value in second for value in first])


def lies_in(first, second):
    """Whether each member of first is in second."""
    return all([value in second for value in first])


def same_value(first, other):
    """Whether two values are equal and of the same kinds throughout: True and 1.0 are no 1."""
    # Long texts are made only of what compares as equal.
    return first == other and repr(first) == repr(other)
