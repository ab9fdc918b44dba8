"""What the tests of moves share: a plain reading of points [260] to [263], and random runs."""

import random

from silentlinks.lots import Lots
from silentlinks.machines import Machine
from silentlinks.moving import Moving
from silentlinks.worlds import World
from runs import play
from support import some_rows


def best(stores):
    """[260]: the join of marked stores."""
    stamps = tuple(max(column, key=lambda stamp: stamp[:3]) for column in zip(*[store[0] for store in stores]))
    return (stamps, max(store[1] for store in stores), max(store[2] for store in stores))


def is_marked_at_most(store, other):
    """[260]"""
    stamps = all(own[:3] <= late[:3] for own, late in zip(store[0], other[0]))
    return stamps and store[1] <= other[1] and store[2] <= other[2]


class PlainMoving(Machine):
    """The machine Moving with the tick read from [12] and [260] to [263] word by word."""

    def __init__(self, other):
        self.houses, self.other = other.houses, other

    def admits(self, me, deed):
        return self.other.admits(me, deed)

    def fresh(self, me):
        store = (tuple((0, 0, -1, 0) for _ in range(self.other.registers)), 0, -1)
        card = (0, tuple(0 for _ in range(self.houses)), store)
        return (tuple(card for _ in range(self.houses)), None, -1, None, ())

    def begin(self, state, me, deed):
        return (state[0], deed, state[2] + 1, state[3], state[4])

    def hear(self, state, me, origin, sheet):
        return (tuple(late if late[0] > own[0] else own for own, late in zip(state[0], sheet[0])),) + state[1:]

    def tick(self, state, me):
        self.me, self.board, self.log = me, list(state[0]), list(state[4])
        self.deed, self.turn, self.answer = state[1], state[2], None
        self.tour = None if state[3] is None else list(state[3])
        self.ticks = self.board[me][0] + 1
        self.look()
        self.card()
        self.look()
        tour = None if self.tour is None else tuple(self.tour)
        return (tuple(self.board), self.deed, self.turn, tour, tuple(self.log)), self.answer

    def valid(self):
        return [tour for tour in self.log if tour[0] == self.turn and tour[7] == "valid"]

    def look(self):
        if self.tour is None:
            return
        if self.tour[1] < max(card[2][1] for card in self.board):
            self.tour = None
            return
        turn, e, first, put = self.tour[:4]
        if self.tour[4] is None:
            for lot in self.other.rows[e].asked:
                if min(self.board[x][1][self.me] for x in lot) >= first:
                    numbers = [stamp[1] for stamp in put[0] if stamp[0] == e]
                    self.tour[4] = max([self.board[x][0] for x in lot] + numbers)
                    break
        if self.tour[4] is None:
            return
        for lot in self.other.rows[e].heard:
            if all(self.board[x][0] >= self.tour[4] for x in lot):
                result = best([self.board[x][2] for x in lot])
                verdict = "valid" if result[2] < e else "closing" if put[2] >= e else "again"
                self.log.append((turn, e, first, put, self.tour[4], self.ticks, result, verdict))
                self.tour = None
                self.settle()
                return

    def settle(self):
        """[263]: answers the deed if it may be answered."""
        valid = self.valid()
        if not valid:
            return
        told = None
        if self.deed[0] == "move":
            told = self.deed[1]
        elif self.deed[0] == "put" and len(valid) == 2:
            told = self.deed[2]
        elif self.deed[0] == "get":
            x = self.deed[1]
            if len(valid) == 2 or not valid[0][6][0][x][:3] > valid[0][3][0][x][:3]:
                told = valid[-1][3][0][x][3]
        if told is not None:
            self.answer, self.deed = told, None

    def card(self):
        stamps, opened, closed = best([card[2] for card in self.board])
        for tour in self.log:
            if tour[7] == "closing":
                opened = max(opened, tour[1] + 1)
        begins = self.deed is not None and self.tour is None
        if begins and self.deed[0] == "put" and self.valid():
            stamp = (self.valid()[0][1], self.valid()[0][4] + 1, self.me, self.deed[2])
            x = self.deed[1]
            if stamp[:3] > stamps[x][:3]:
                stamps = stamps[:x] + (stamp,) + stamps[x + 1:]
        if begins and self.deed[0] == "move" and opened < self.deed[1]:
            closed = max(closed, opened)
        heard = [card[0] for card in self.board]
        heard[self.me] = self.ticks
        self.board[self.me] = (self.ticks, tuple(heard), (stamps, opened, closed))
        if begins:
            self.tour = [self.turn, opened, self.ticks, self.board[self.me][2], None, None, None, None]


def crossing_row(pick, houses):
    while True:
        lots = Lots(houses, some_rows(pick, houses, 3), some_rows(pick, houses, 3))
        if lots.crossing:
            return lots


def some_moving(pick, houses, crossing=True, most=4):
    """A Moving of one to most rows; unlike rows need not cross one another."""
    rows = []
    for _ in range(pick.randint(1, most)):
        rows.append(crossing_row(pick, houses) if crossing else Lots(houses, some_rows(pick, houses), some_rows(pick, houses)))
    return Moving(rows, registers=pick.randint(1, 2))


def move_deeds(pick, machine):
    rows = []
    for x in range(machine.registers):
        rows += [("get", x), ("get", x)] + [("put", x, pick.randint(-99, 99)) for _ in range(2)]
    return rows + [("move", e) for e in range(1, len(machine.rows))] * 2


def moving_worlds(seed, many, length=900, crossing=True, most_houses=4):
    """Worlds of Moving machines behind random events, with falls, wakes and hushes, late and doubled sheets."""
    from touring import some_way
    pick = random.Random(seed)
    for _ in range(many):
        machine = some_moving(pick, pick.randint(1, most_houses), crossing)
        world = World(machine)
        yield play(pick, world, pick.randint(20, length), move_deeds(pick, machine), some_way(pick, machine.houses))
