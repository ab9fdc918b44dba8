"""What the tests of histories share: random small histories, and a plain reading of point [9]."""

import itertools
import random


def some_history(pick, many, deeds):
    """A history of so many records with random spans, some unended, and random answers out of few."""
    times = list(range(2 * many + 2))
    pick.shuffle(times)
    records = []
    for k in range(many):
        begun, ended = sorted(times[2 * k:2 * k + 2])
        if pick.random() < 0.6:
            # Short spans leave few orders.
            ended = min(ended, begun + pick.randint(1, 3))
            while ended in times[:2 * k] + [record[2] for record in records] + [r[3] for r in records]:
                ended += 1
        deed = pick.choice(deeds)
        answer = deed[2] if deed[0] == "put" else pick.randint(0, 2)
        if deed[0] == "look":
            answer = tuple(pick.randint(0, 2) for _ in range(deed[1]))
        if pick.random() < 0.2:
            ended, answer = None, None
        records.append((pick.randrange(3), deed, begun, ended, answer))
    return records


def is_history(records):
    used = [time for record in records for time in record[2:4] if time is not None]
    return len(set(used)) == len(used)


def some_histories(seed, many, deeds, most=5):
    pick = random.Random(seed)
    while many > 0:
        records = some_history(pick, pick.randint(0, most), deeds)
        if is_history(records):
            many -= 1
            yield records


MIXED = [("get", 0), ("get", 1), ("put", 0, 1), ("put", 0, 2), ("put", 1, 1), ("look", 2), ("look", 1)]
PLAIN = [("get", 0), ("get", 1), ("put", 0, 1), ("put", 0, 2), ("put", 1, 1), ("put", 1, 2)]


def one_register_histories(seed, many, most=7):
    """Histories of one register as point [203] asks for: no put of 0, no number put twice."""
    pick = random.Random(seed)
    while many > 0:
        size = pick.randint(0, most)
        numbers = pick.sample(range(-2, 9), 11)
        numbers.remove(0)
        records = []
        for record in some_history(pick, size, [("get", 3)]):
            if pick.random() < 0.45:
                value = numbers.pop()
                record = (record[0], ("put", 3, value), record[2], record[3], None if record[3] is None else value)
            records.append(record)
        puts = [record[1][2] for record in records if record[1][0] == "put"]
        values = puts + puts + [0, 0, 7]
        told = [
            record if record[1][0] == "put" or record[3] is None else record[:4] + (pick.choice(values),)
            for record in records
        ]
        if is_history(told):
            many -= 1
            yield told


def is_order_by(history, row):
    """[9], word by word."""
    ended = [at for at, record in enumerate(history) if record[3] is not None]
    puts = [at for at, record in enumerate(history) if record[1][0] == "put"]
    if len(set(row)) != len(row) or not set(ended) <= set(row) <= set(ended) | set(puts):
        return False
    for one, other in itertools.combinations(row, 2):
        if history[other][3] is not None and history[other][3] < history[one][2]:
            return False
    for k, at in enumerate(row):
        deed, answer = history[at][1], history[at][4]
        ahead = [history[x][1] for x in row[:k] if history[x][1][0] == "put"]

        def last(place):
            return ([put[2] for put in ahead if put[1] == place] or [0])[-1]
        if deed[0] == "get" and answer != last(deed[1]):
            return False
        if deed[0] == "look" and tuple(answer) != tuple(last(place) for place in range(deed[1])):
            return False
    return True


def all_rows(many):
    for size in range(many + 1):
        yield from itertools.permutations(range(many), size)


def all_orders(history):
    return [row for row in all_rows(len(history)) if is_order_by(history, row)]
