"""Marked stores: stamps that begin with a number of lots, and which lots are open and closed."""

BLANK_STAMP = (0, 0, -1, 0)

# A marked store is (stamps, opened, closed), a stamp here (lots, number, owner, value).


def blank_marked(many):
    """The blank marked store of so many registers."""
    return ((BLANK_STAMP,) * many, 0, -1)


def greater_of(own, late):
    """The one with the greater stamp, own if they are equal."""
    return late if late[:3] > own[:3] else own


def joined_marked(stores):
    """The join of one or more marked stores, a list."""
    stamps = stores[0][0]
    for store in stores[1:]:
        stamps = tuple([greater_of(own, late) for own, late in zip(stamps, store[0])])
    return (stamps, max([store[1] for store in stores]), max([store[2] for store in stores]))


def with_stamp(store, place, stamp):
    """The store joined with a stamp at one register."""
    stamps, opened, closed = store
    joined = stamps[:place] + (greater_of(stamps[place], stamp),) + stamps[place + 1:]
    return (joined, opened, closed)


def with_opened(store, opened):
    """The store in which at least these lots are known to be open."""
    return (store[0], max(store[1], opened), store[2])


def with_closed(store, closed):
    """The store in which at least these lots are known to be closed."""
    return (store[0], store[1], max(store[2], closed))
