"""The first order of a small history."""

from silentlinks.errors import TooManyDeeds
from silentlinks.histories import check_history, ended_before
from silentlinks.judging import due_answer, first_missing, held_behind

MOST_DEEDS = 9


def may_follow(history, row, held, place):
    """Whether the deed at this position may stand next behind the beginning row of an order."""
    record = history[place]
    if place in row:
        return False
    if record[1][0] != "put" and (record[3] is None or record[4] != due_answer(record[1], held)):
        return False
    return not any([ended_before(other, record) for at, other in enumerate(history) if at not in row])


def grown_row(history, row, held, failed):
    """The first order that begins with row, None if there is none; held is what the registers hold behind it.

    Whether there is one depends on the deeds in row and on held alone; failed keeps where there is none.
    """
    if first_missing(history, row) is None:
        return row
    key = (tuple(sorted(row)), tuple(sorted(held.items())))
    if key in failed:
        return None
    for place in range(len(history)):
        if may_follow(history, row, held, place):
            found = grown_row(history, row + (place,), held_behind(history[place][1], held), failed)
            if found is not None:
                return found
    failed[key] = True
    return None


def find_order(records):
    """The first order of the history, None if there is none; TooManyDeeds(number) beyond 9 records."""
    history = check_history(records)
    if len(history) > MOST_DEEDS:
        raise TooManyDeeds(len(history))
    return grown_row(history, (), {}, {})
