"""Histories taken apart by registers, and orders of the parts joined."""

from silentlinks.amounts import is_row
from silentlinks.errors import NotOne
from silentlinks.histories import check_history, ended_before, registers_in
from silentlinks.judging import is_order


def without_looks(records):
    """The history; NotOne(at) with the first position of a look."""
    history = check_history(records)
    for at, record in enumerate(history):
        if record[1][0] == "look":
            raise NotOne(at)
    return history


def positions_of(history, place):
    """The positions of the records that name this register."""
    return [at for at, record in enumerate(history) if record[1][1] == place]


def by_registers(records):
    """A tuple (register, records) for each register that the history names, ascending."""
    history = without_looks(records)
    rows = []
    for place in registers_in(history):
        rows.append((place, tuple([history[at] for at in positions_of(history, place)])))
    return tuple(rows)


def joined_order(records, rows):
    """An order of the whole history from one of each part, None if rows, of any kind, are none."""
    history = without_looks(records)
    parts = by_registers(history)
    if not is_row(rows) or len(rows) != len(parts):
        return None
    left = []
    for part, row in zip(parts, rows):
        if not is_order(part[1], row):
            return None
        positions = positions_of(history, part[0])
        left.append([positions[at] for at in row])
    return merged_rows(history, left)


def merged_rows(history, left):
    """The positions of all these rows in one row; of the heads of the rows a free one comes next."""
    found = []
    while any([len(row) > 0 for row in left]):
        later = [history[at] for row in left for at in row]
        heads = [row[0] for row in left if len(row) > 0]
        # The head of the row with the first end left is free, since it began ahead of that end.
        free = [at for at in heads if not any([ended_before(other, history[at]) for other in later])]
        found.append(free[0])
        left = [[at for at in row if at != free[0]] for row in left]
    return tuple(found)
