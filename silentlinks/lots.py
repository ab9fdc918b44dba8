"""Lots: sets of houses that are asked and heard."""

from silentlinks.amounts import house_count, house_set, is_row, lies_in, meet
from silentlinks.errors import BadLots, BadSet, OtherHouses
from silentlinks.friends import sights
from silentlinks.parts import part, past


def in_order(rows):
    """A row of ascending tuples, each once, smaller ones first, those of one size ascending."""
    return tuple([row for size, row in sorted({(len(row), row) for row in rows})])


def lot_row(houses, rows):
    """The sets of a list or tuple of sets of houses, in order, each once."""
    return in_order([house_set(houses, row) for row in rows])


def checked_lots(houses, rows, name):
    """The sets of rows in order; BadLots(name, at) if they are no row of lots."""
    if not is_row(rows) or len(rows) == 0:
        raise BadLots(name, -1)
    found = []
    for at, row in enumerate(rows):
        found.append(checked_lot(houses, row, name, at))
    return in_order(found)


def checked_lot(houses, row, name, at):
    """The houses of one lot, ascending; BadLots(name, at) if it is none."""
    try:
        lot = house_set(houses, row)
    except BadSet as e:
        raise BadLots(name, at) from e
    if len(lot) == 0:
        raise BadLots(name, at)
    return lot


def all_sets(houses):
    """All sets of the houses below houses, in order, the empty one first."""
    rows = [()]
    for house in range(houses):
        rows = rows + [row + (house,) for row in rows]
    return in_order(rows)


def check_same_houses(first, other):
    """OtherHouses() if two things are for unlike numbers of houses."""
    if first.houses != other.houses:
        raise OtherHouses()


def first_apart(asked, heard):
    """The first asked lot that misses a heard lot, with the first such; None if the lots cross."""
    for lot in asked:
        for other in heard:
            if not meet(lot, other):
                return (lot, other)
    return None


def some_lies_in(rows, houses):
    """Whether a set of rows lies within these houses."""
    return any([lies_in(row, houses) for row in rows])


class Lots:
    """A row of asked lots and a row of heard lots."""

    def __init__(self, houses, asked, heard):
        self.houses = house_count(houses)
        self.asked = checked_lots(houses, asked, "asked")
        self.heard = checked_lots(houses, heard, "heard")

    def __eq__(self, other):
        if not isinstance(other, Lots):
            return False
        return self.houses == other.houses and self.asked == other.asked and self.heard == other.heard

    def __invert__(self):
        return Lots(self.houses, self.heard, self.asked)

    @property
    def crossing(self):
        """Whether every asked lot has a house in common with every heard lot."""
        return self.missing() is None

    def missing(self):
        """An asked lot and a heard lot without a common house, None if the lots cross."""
        return first_apart(self.asked, self.heard)

    def serves(self, net, house):
        """Whether the lots serve house in the net."""
        check_same_houses(self, net)
        return some_lies_in(self.asked, part(net, house)) and some_lies_in(self.heard, past(net, house))

    @classmethod
    def majority(cls, houses):
        """The lots of all sets of more than half of the houses that have no such smaller subset."""
        house_count(houses)
        rows = [row for row in all_sets(houses) if len(row) == houses // 2 + 1]
        return cls(houses, rows, rows)


def check_lots(value):
    """The value; BadLots("asked", -1) if it is no Lots."""
    if not isinstance(value, Lots):
        raise BadLots("asked", -1)
    return value


def lots_of(claim):
    """The Lots of the parts and of the pasts of a keepable claim's places."""
    claim.kept()
    known = sights(claim.book, claim.places)
    return Lots(claim.book.houses, [row[1] for row in known], [row[0] for row in known])
