"""Stores: for each register the triple of a number, an owner and a value."""

from silentlinks.amounts import check_number

BLANK = (0, -1, 0)


def blank_store(many):
    """The blank store of so many registers."""
    return (BLANK,) * check_number(many, "many", 1)


def greater_stamp(first, other):
    """Whether the stamp of first is greater than that of other; each is a stamp or a triple."""
    return (first[0], first[1]) > (other[0], other[1])


def joined_two(store, other):
    """The join of two stores; at equal stamps the triple of store stays."""
    return tuple([late if greater_stamp(late, own) else own for own, late in zip(store, other)])


def joined(*stores):
    """The join of any number of stores, () of none."""
    found = ()
    for at, store in enumerate(stores):
        found = store if at == 0 else joined_two(found, store)
    return found


def at_most(store, other):
    """Whether store has at no register a greater stamp than other."""
    return not any([greater_stamp(own, late) for own, late in zip(store, other)])


def stamped(store, place, triple):
    """The join of store and the blank store with triple at one register."""
    blank = blank_store(len(store))
    return joined_two(store, blank[:place] + (triple,) + blank[place + 1:])
