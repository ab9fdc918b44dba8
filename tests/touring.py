"""What the tests of touring machines share: a plain reading of points [12] and [161], random runs, and orders by [9]."""

import random

from silentlinks.lots import Lots
from silentlinks.machines import Machine
from silentlinks.memory import Memory
from silentlinks.patterns import Pattern
from silentlinks.tours import tours_in
from silentlinks.worlds import World
from runs import play
from support import crossing_lots, some_lots, some_pattern


class Plain(Machine):
    """The touring machine of another one's plan and lots, with the tick read from [12] word by word."""

    def __init__(self, other):
        self.houses, self.registers, self.other = other.houses, other.registers, other

    def fresh(self, me):
        card = (0, tuple(0 for _ in range(self.houses)), tuple((0, -1, 0) for _ in range(self.registers)))
        return (tuple(card for _ in range(self.houses)), None, -1, None, ())

    def begin(self, state, me, deed):
        return (state[0], deed, state[2] + 1, state[3], state[4])

    def hear(self, state, me, origin, sheet):
        rows = [max((own, 1), (late, 0), key=lambda row: (row[0][0], row[1]))[0] for own, late in zip(state[0], sheet[0])]
        return (tuple(rows),) + state[1:]

    def admits(self, me, deed):
        return self.other.admits(me, deed)

    def tick(self, state, me):
        self.me, self.board, self.log = me, list(state[0]), list(state[4])
        self.deed, self.turn, self.answer = state[1], state[2], None
        self.tour = None if state[3] is None else list(state[3])
        self.ticks = self.board[me][0] + 1
        self.look()
        self.card()
        self.look()
        tour = None if self.tour is None else tuple(self.tour)
        return (tuple(self.board), self.deed, self.turn, tour, tuple(self.log)), self.answer

    def next(self):
        return self.other.plan(self.me, self.turn, self.deed, tuple(t for t in self.log if t[0] == self.turn))

    def best(self, stores):
        """The join: at each register the first triple with the greatest stamp."""
        return tuple(max(triples, key=lambda triple: triple[:2]) for triples in zip(*stores))

    def look(self):
        changes = True
        while changes and self.tour is not None:
            changes = False
            lots = self.other.lots_for(self.deed)
            if self.tour[4] is None:
                for lot in lots.asked:
                    if min(self.board[x][1][self.me] for x in lot) >= self.tour[2]:
                        numbers = [self.board[x][0] for x in lot] + [number for number, _, _ in self.tour[3]]
                        self.tour[4], changes = max(numbers), True
                        break
                done = changes and self.tour[1]
            else:
                fits = [lot for lot in lots.heard if all(self.board[x][0] >= self.tour[4] for x in lot)]
                done = bool(fits)
                if done:
                    self.tour[6] = self.best([self.board[x][2] for x in fits[0]])
            if done:
                self.tour[5] = self.ticks
                self.log.append(tuple(self.tour))
                self.tour, (word, value) = None, self.next()
                if word == "answer":
                    self.deed, self.answer = None, value

    def card(self):
        starts = self.deed is not None and self.tour is None
        stores = [card[2] for card in self.board]
        if starts:
            word, made = self.next()
            if made is not None:
                stores.append(tuple(made[1] if x == made[0] else (0, -1, 0) for x in range(self.registers)))
        heard = [card[0] for card in self.board]
        heard[self.me] = self.ticks
        self.board[self.me] = (self.ticks, tuple(heard), self.best(stores))
        if starts:
            self.tour = [self.turn, word == "half", self.ticks, self.board[self.me][2], None, None, None]


def some_memory(pick, lots, most=3):
    """A Memory of these lots with one to most registers, some of them owned."""
    return Memory(lots, owners=[pick.choice([None, None] + list(range(lots.houses))) for _ in range(pick.randint(1, most))])


def deeds_for(pick, registers):
    """Deeds for so many registers; their values are unlike often enough to tell them apart."""
    rows = [("look",)]
    for x in range(registers):
        rows += [("get", x), ("get", x)] + [("put", x, pick.randint(-99, 99)) for _ in range(3)]
    return rows


def memories(seed, many, most_houses=4, crossing=True):
    pick = random.Random(seed)
    for lots in (crossing_lots if crossing else some_lots)(seed, many, most_houses):
        yield pick, some_memory(pick, lots)


def played(pick, machine, many, pattern=None):
    return play(pick, World(machine), many, deeds_for(pick, machine.registers), pattern)


def some_way(pick, houses):
    """Within what a run stays: any falls, wakes and hushes, those of a pattern, or none."""
    return pick.choice((None, Pattern(), some_pattern(pick, houses)))


def worlds(seed, many, length=1500, most_houses=4, crossing=True):
    """Worlds of Memories behind random events."""
    for pick, machine in memories(seed, many, most_houses, crossing):
        yield played(pick, machine, pick.randint(20, length), some_way(pick, machine.houses))


def is_tour_at_most(store, other):
    return all(a[:2] <= b[:2] for a, b in zip(store, other))


def all_tours(world):
    return [tour for _, tour in tours_in(world)]


def is_order(history, row, registers):
    """[9]: whether the row of positions is an order of the history of a world."""
    if len(set(row)) != len(row) or any(r[3] is not None and at not in row for at, r in enumerate(history)):
        return False
    held = [0] * registers
    for k, at in enumerate(row):
        house, deed, begun, ended, answer = history[at]
        if ended is None and deed[0] != "put":
            return False
        if any(history[late][3] is not None and history[late][3] < begun for late in row[k + 1:]):
            return False
        if deed[0] == "put":
            held[deed[1]] = deed[2]
        elif answer != (held[deed[1]] if deed[0] == "get" else tuple(held)):
            return False
    return True


def has_order(history, held=0):
    """[9], of gets and puts of register 0: whether there is an order, by going through all of them."""
    failed = set()

    def grow(left, held):
        if all(history[at][3] is None for at in left):
            return True
        if (left, held) in failed:
            return False
        ends = [history[at][3] for at in left if history[at][3] is not None]
        for at in left:
            house, deed, begun, ended, answer = history[at]
            if begun < min(ends) and (deed[0] == "put" or ended is not None and answer == held):
                if grow(left - {at}, deed[2] if deed[0] == "put" else held):
                    return True
        failed.add((left, held))
        return False
    return grow(frozenset(range(len(history))), held)


def majority7():
    return Lots.majority(7)
