"""Histories of one register: an order, or a paper that tells why there is none."""

from silentlinks.amounts import is_below, is_number, is_row
from silentlinks.errors import NotOne
from silentlinks.histories import check_history


def one_register(records):
    """The history; NotOne(at) with the first record that keeps it from being one of one register."""
    history = check_history(records)
    puts = {}
    for at, record in enumerate(history):
        deed = record[1]
        if deed[0] == "look" or deed[1] != history[0][1][1]:
            raise NotOne(at)
        if deed[0] == "put":
            if deed[2] == 0 or deed[2] in puts:
                raise NotOne(at)
            puts[deed[2]] = True
    return history


def is_ended_get(record):
    """Whether a record is that of a get that ended."""
    return record[1][0] == "get" and record[3] is not None


def put_of(history, worth):
    """The position of the put of a number, None if there is none."""
    for at, record in enumerate(history):
        if record[1][0] == "put" and record[1][2] == worth:
            return at
    return None


def deeds_of(history, worth):
    """The positions of the deeds of a number that count, its put first, then its gets as they began."""
    told = [(record[2], at) for at, record in enumerate(history) if is_ended_get(record) and record[4] == worth]
    gets = [at for begun, at in sorted(told)]
    put = put_of(history, worth)
    if put is None or (history[put][3] is None and len(gets) == 0):
        return gets
    return [put] + gets


def ends_of(history, worth):
    """The first end and the last begin among the deeds of a number, both None if it has none."""
    rows = [history[at] for at in deeds_of(history, worth)]
    ends = [record[3] for record in rows if record[3] is not None]
    begins = [record[2] for record in rows]
    if worth == 0:
        # The registers hold 0 at first, as if a put had ended before all else.
        return (-1, max([-1] + begins))
    return (min(ends, default=None), max(begins, default=None))


def value_ends(records, worth):
    """The first end and the last begin among the deeds of a number, both None if it has none."""
    return ends_of(one_register(records), worth)


def is_held(ends):
    """Whether a number with this first end and this last begin is held."""
    return ends[0] is not None and ends[0] < ends[1]


def is_loose(ends):
    """Whether a number with this first end and this last begin is loose."""
    return ends[0] is not None and ends[0] >= ends[1]


def is_across(first, other):
    """Whether two unlike numbers with these ends and begins are both held, and stand across."""
    return is_held(first) and is_held(other) and first[0] < other[1] and other[0] < first[1]


def is_inside(first, other):
    """Whether of two numbers with these ends and begins the first is loose, and inside of the other, held one."""
    return is_loose(first) and is_held(other) and other[0] < first[1] and first[0] < other[1]


def is_unput(history, place):
    """Whether the record at this position is an ended get of a number that was not put before its end."""
    record = history[place]
    if not is_ended_get(record) or record[4] == 0:
        return False
    put = put_of(history, record[4])
    return put is None or history[put][2] > record[3]


def told_worths(history):
    """All numbers that have deeds, ascending, and 0."""
    found = {0: True}
    for record in history:
        worth = record[1][2] if record[1][0] == "put" else record[4]
        if worth is not None and len(deeds_of(history, worth)) > 0:
            found[worth] = True
    return sorted(found)


def next_worth(ends, left):
    """One of the numbers left, no deed of which begins behind the end of a deed of another one left."""
    first_ends = sorted([(ends[worth][0], worth) for worth in left])[:2]
    free = []
    for worth in left:
        if not any([end < ends[worth][1] for end, other in first_ends if other != worth]):
            free.append(worth)
    return free[0]


def built_order(history, ends):
    """An order of a history without a paper; ends tells the first end and the last begin of each number."""
    left = sorted(ends)
    row = []
    while len(left) > 0:
        # Without a paper the numbers left do not wait for one another in a ring, so one of them is free.
        worth = next_worth(ends, left)
        row.extend(deeds_of(history, worth))
        left = [other for other in left if other != worth]
    return tuple(row)


def first_across(ends):
    """The least pair of numbers that stand across, None if there is none."""
    for worth in sorted(ends):
        for other in sorted(ends):
            if worth != other and is_across(ends[worth], ends[other]):
                return (worth, other)
    return None


def first_inside(ends):
    """The least pair of a number and another one that it is inside of, None if there is none."""
    for worth in sorted(ends):
        for other in sorted(ends):
            if is_inside(ends[worth], ends[other]):
                return (worth, other)
    return None


def verdict(records):
    """An order of a history of one register, or the paper that there is none."""
    history = one_register(records)
    for place in range(len(history)):
        if is_unput(history, place):
            return ("unput", place)
    ends = {worth: ends_of(history, worth) for worth in told_worths(history)}
    across, inside = first_across(ends), first_inside(ends)
    if across is not None:
        return ("across", across[0], across[1])
    if inside is not None:
        return ("inside", inside[0], inside[1])
    return ("order", built_order(history, ends))


def is_paper(records, paper):
    """Whether paper, of any kind, is one that the history has no order, and what it says holds."""
    history = one_register(records)
    if not is_row(paper) or len(paper) < 2:
        return False
    if paper[0] == "unput":
        return len(paper) == 2 and is_below(paper[1], len(history)) and is_unput(history, paper[1])
    if len(paper) != 3 or not is_number(paper[1]) or not is_number(paper[2]) or paper[1] == paper[2]:
        return False
    first, other = ends_of(history, paper[1]), ends_of(history, paper[2])
    if paper[0] == "across":
        return is_across(first, other)
    return paper[0] == "inside" and is_inside(first, other)
