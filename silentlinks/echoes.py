"""Distances, round trips and echoes."""

from silentlinks.amounts import check_number
from silentlinks.nets import alive_house
from silentlinks.paths import steps_over


def distances(net, house):
    """The distances from house to each house, None where there is none."""
    return tuple(steps_over(net.onward, alive_house(net, house)))


def distances_to(net, house):
    """The distances from each house to house, None where there is none."""
    return tuple(steps_over(net.backward, alive_house(net, house)))


def distance(net, first, other):
    """The distance from first to other, None if there is none."""
    row = distances(net, first)
    return row[alive_house(net, other)]


def round_trips(net, house):
    """The round trips of house with each house, None where there is none."""
    onward = distances(net, house)
    backward = distances_to(net, house)
    return tuple([sum_of(there, back) for there, back in zip(onward, backward)])


def sum_of(first, other):
    """The sum of two numbers, None if one of them is None."""
    return None if first is None or other is None else first + other


def round_trip(net, house, other):
    """The round trip of house and other, None if there is none."""
    row = round_trips(net, house)
    return row[alive_house(net, other)]


def within_limit(times, limit):
    """The houses whose time is at most the limit, ascending."""
    return tuple([house for house, time in enumerate(times) if time is not None and time <= limit])


def echo(net, house, limit):
    """All houses whose round trip with house is at most the limit, ascending."""
    times = round_trips(net, house)
    return within_limit(times, check_number(limit, "limit", 0))


def full_span(net, house):
    """The greatest round trip of house with a house of its part."""
    return max([time for time in round_trips(net, house) if time is not None])


def inner(net, house, limit):
    """All houses whose distance to house is at most the limit, ascending."""
    times = distances_to(net, house)
    return within_limit(times, check_number(limit, "limit", 0))
