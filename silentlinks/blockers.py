"""Blockers of rows of sets, and lots made from them."""

from silentlinks.amounts import house_count, house_set, lies_in, meet
from silentlinks.errors import NotCrossing
from silentlinks.lots import Lots, all_sets, checked_lots, lots_of


def told_rows(houses, rows):
    """The sets of the argument rows in order, with the errors named for it and for houses."""
    return checked_lots(house_count(houses), rows, "rows")


def meets_all(chosen, rows):
    """Whether a set has a house in common with each set of rows."""
    return all([meet(chosen, row) for row in rows])


def lean_rows(rows):
    """Of rows in order those sets of which no smaller subset is among them."""
    found = []
    for row in rows:
        # Smaller sets come first, so a subset that is left out has one itself that was taken.
        if not any([lies_in(smaller, row) for smaller in found]):
            found.append(row)
    return tuple(found)


def lean(houses, rows):
    """The sets of rows of which no smaller subset is in rows, in order."""
    return lean_rows(told_rows(houses, rows))


def blockers(houses, rows):
    """All lean blockers of rows, in order."""
    told = told_rows(houses, rows)
    return lean_rows([chosen for chosen in all_sets(houses) if meets_all(chosen, told)])


def is_blocker(houses, rows, chosen):
    """Whether the set of houses chosen has a house in common with each set of rows."""
    told = told_rows(houses, rows)
    return meets_all(house_set(houses, chosen), told)


def check_crossing(lots):
    """NotCrossing() if the lots do not cross."""
    if not lots.crossing:
        raise NotCrossing()


def mutual(lots):
    """The Lots of the lean blockers of the heard lots and the lean blockers of these."""
    check_crossing(lots)
    asked = blockers(lots.houses, lots.heard)
    return Lots(lots.houses, asked, blockers(lots.houses, asked))


def thin_lot(lot, others):
    """The lot without each house, taken in ascending order, that it can spare to meet all others."""
    left = lot
    for house in lot:
        fewer = left_without(left, house)
        if meets_all(fewer, others):
            left = fewer
    return left


def left_without(lot, house):
    """The lot without one of its houses."""
    return tuple([x for x in lot if x != house])


def thin(lots):
    """The lots without the houses that they can spare, asked lots first."""
    check_crossing(lots)
    asked = [thin_lot(lot, lots.heard) for lot in lots.asked]
    heard = [thin_lot(lot, asked) for lot in lots.heard]
    return Lots(lots.houses, asked, heard)


def spares_none(rows, others):
    """Whether no set of rows can spare a house and still meet all others."""
    for lot in rows:
        for house in lot:
            if meets_all(left_without(lot, house), others):
                return False
    return True


def is_thin(lots):
    """Whether the lots cross, and do not with any house taken out of a lot of two or more."""
    return lots.crossing and spares_none(lots.asked, lots.heard) and spares_none(lots.heard, lots.asked)


def quick_lots(claim):
    """The Lots of the lean pasts of a keepable claim's places and of the lean blockers of these."""
    told = lots_of(claim)
    heard = lean_rows(told.heard)
    return Lots(told.houses, blockers(told.houses, heard), heard)
