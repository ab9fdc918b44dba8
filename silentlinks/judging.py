"""Whether a row of positions is an order of a history, and why not."""

from silentlinks.amounts import is_below, is_row
from silentlinks.histories import check_history, ended_before


def is_position_row(many, row):
    """Whether row, of any kind, is a list or tuple of unlike positions below many."""
    if not is_row(row):
        return False
    found = {}
    for value in row:
        if not is_below(value, many) or value in found:
            return False
        found[value] = True
    return True


def held_behind(deed, held):
    """What the registers hold behind a deed, a dict; a register that it leaves out holds 0."""
    later = {place: held[place] for place in held}
    if deed[0] == "put":
        later[deed[1]] = deed[2]
    return later


def due_answer(deed, held):
    """What a get or look answers where the registers hold this."""
    if deed[0] == "get":
        return held.get(deed[1], 0)
    return tuple([held.get(place, 0) for place in range(deed[1])])


def first_missing(history, row):
    """The least position of an ended deed that is not in the row, None if there is none."""
    for place, record in enumerate(history):
        if record[3] is not None and place not in row:
            return place
    return None


def first_unended(history, row):
    """The least position of a get or look in the row that has no end, None if there is none."""
    for place, record in enumerate(history):
        if record[3] is None and record[1][0] != "put" and place in row:
            return place
    return None


def first_late(rows):
    """The least index behind which a deed stands that ended before the one at it began, None if there is none."""
    for at, record in enumerate(rows):
        if any([ended_before(later, record) for later in rows[at + 1:]]):
            return at
    return None


def first_untrue(rows):
    """The least index of a get or look that answers something else than is due, None if there is none."""
    held = {}
    for at, record in enumerate(rows):
        if record[1][0] != "put" and record[4] != due_answer(record[1], held):
            return at
        held = held_behind(record[1], held)
    return None


def first_wrong(records, row):
    """None if row, of any kind, is an order of the history; otherwise the first reason why it is none."""
    history = check_history(records)
    if not is_position_row(len(history), row):
        return ("row",)
    rows = [history[place] for place in row]
    missing, unended = first_missing(history, row), first_unended(history, row)
    if missing is not None:
        return ("missing", missing)
    if unended is not None:
        return ("unended", unended)
    late, untrue = first_late(rows), first_untrue(rows)
    if late is not None:
        return ("time", late)
    return None if untrue is None else ("answer", untrue)


def is_order(records, row):
    """Whether row, of any kind, is an order of the history."""
    return first_wrong(records, row) is None
