"""Histories: rows of records of gets, puts and looks."""

from silentlinks.amounts import check_number, is_below, is_number, is_row
from silentlinks.errors import BadRecord


def checked_deed(deed):
    """The deed of a record as a tuple, None if it, of any kind, is none."""
    if not is_row(deed) or len(deed) == 0 or not all([is_number(value) for value in deed[1:]]):
        return None
    told = tuple(deed)
    if told[0] == "get" and len(told) == 2:
        return told if told[1] >= 0 else None
    if told[0] == "put" and len(told) == 3:
        return told if told[1] >= 0 else None
    if told[0] == "look" and len(told) == 2:
        return told if told[1] >= 1 else None
    return None


def answers_look(many, answer):
    """Whether answer, of any kind, is a list or tuple of so many numbers."""
    return is_row(answer) and len(answer) == many and all([is_number(value) for value in answer])


def is_answer(deed, answer):
    """Whether answer, of any kind, is one of a deed that ended."""
    if deed[0] == "get":
        return is_number(answer)
    return answers_look(deed[1], answer) if deed[0] == "look" else answer is not None


def is_span(begun, ended):
    """Whether begun is a number from 0, and ended None or a number above it."""
    if not is_below(begun, None):
        return False
    return ended is None or (is_number(ended) and ended > begun)


def checked_record(record):
    """The record as a tuple, None if it, of any kind, is none."""
    if not is_row(record) or len(record) != 5:
        return None
    house, _, begun, ended, answer = record
    deed = checked_deed(record[1])
    if not is_below(house, None) or deed is None or not is_span(begun, ended):
        return None
    if ended is None:
        return None if answer is not None else (house, deed, begun, None, None)
    if not is_answer(deed, answer):
        return None
    return (house, deed, begun, ended, tuple(answer) if deed[0] == "look" else answer)


def check_history(records):
    """The history as a tuple of tuples; BadRecord(at) with the first wrong record, -1 if records is no row."""
    if not is_row(records):
        raise BadRecord(-1)
    rows = []
    times = {}
    for at, record in enumerate(records):
        told = checked_record(record)
        if told is None or told[2] in times or told[3] in times:
            raise BadRecord(at)
        times[told[2]] = True
        if told[3] is not None:
            times[told[3]] = True
        rows.append(told)
    return tuple(rows)


def told_history(world_records, many):
    """The gets, puts and looks of the history of a world with so many registers."""
    check_number(many, "many", 1)
    rows = []
    for house, deed, begun, ended, answer in world_records:
        if deed[0] in ("get", "put"):
            rows.append((house, deed, begun, ended, answer))
        elif deed[0] == "look":
            rows.append((house, ("look", many), begun, ended, answer))
    return tuple(rows)


def ended_before(first, other):
    """Whether the record first ended before the record other began."""
    return first[3] is not None and first[3] < other[2]


def registers_of(deed):
    """The registers that a deed of a record names."""
    return tuple(range(deed[1])) if deed[0] == "look" else (deed[1],)


def registers_in(records):
    """All registers that the records of a history name, ascending."""
    found = {}
    for record in check_history(records):
        for place in registers_of(record[1]):
            found[place] = True
    return tuple(sorted(found))
