"""Nets: the alive houses and the lasting links of a pattern."""

from silentlinks.amounts import house_count, house_of, is_number
from silentlinks.books import fits_houses
from silentlinks.errors import BadPattern, IsFallen


class Net:
    """The net of a pattern for a number of houses."""

    def __init__(self, houses, pattern):
        self.houses = house_count(houses)
        if not fits_houses(houses, pattern):
            raise BadPattern(-1)
        self.pattern = pattern
        self.alive = pattern.standing(houses)
        self.links = pattern.lasting(houses)
        # For each house the ends of its links, so that a search need not go through all links.
        self.onward = tuple([tuple([b for a, b in self.links if a == x]) for x in range(houses)])
        self.backward = tuple([tuple([a for a, b in self.links if b == x]) for x in range(houses)])

    def __eq__(self, other):
        if not isinstance(other, Net):
            return False
        return self.houses == other.houses and self.alive == other.alive and self.links == other.links

    def lasts(self, first, other):
        """Whether both, of any kind, are numbers and the link from first to other lasts."""
        return is_number(first) and is_number(other) and (first, other) in self.links

    def after(self, house):
        """The houses to which a lasting link goes from house, ascending."""
        return self.onward[alive_house(self, house)]

    def before(self, house):
        """The houses from which a lasting link comes to house, ascending."""
        return self.backward[alive_house(self, house)]


def alive_house(net, value):
    """The value; BadHouse(value) if it is no house, IsFallen(value) if it is a fallen one."""
    house_of(net.houses, value)
    if value not in net.alive:
        raise IsFallen(value)
    return value


def is_alive(net, value):
    """Whether value, of any kind, is an alive house."""
    return is_number(value) and value in net.alive


def net_of(book, number):
    """The Net of the pattern of this number."""
    return Net(book.houses, book[number])
