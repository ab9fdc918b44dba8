"""The memory and the classical way as programs: points [188] and [189], and silentlinks/compiled.py."""

import itertools
import random
import unittest

from silentlinks.compiled import classic_text, memory_text
from silentlinks.lots import Lots
from silentlinks.memory import Memory
from silentlinks.reading import program_from
from silentlinks.steps import step_bound
from silentlinks.stretches import do_rounds
from silentlinks.told import Told
from silentlinks.nets import Net
from silentlinks.patterns import Pattern
from silentlinks.worlds import World
from programs import TOP
from runs import play, some_event
from support import LinksCase, crossing_lots, some_lots
from touring import has_order, some_way

VALUES = (0, 1, 5, -7, 99, TOP, -TOP)
DEEDS = [("get", 0)] * 4 + [("put", 0, v) for v in VALUES]


class Beside(LinksCase):
    def beside(self, pick, lots, many, pattern):
        """A Memory and its program with the same events; the Memory's world."""
        world, other = World(Memory(lots)), World(Told.read(lots.houses, memory_text(lots)))
        told = other.machine
        for _ in range(many):
            event = some_event(pick, world, DEEDS, pattern)
            if world.can(event):
                self.same(other.do(event), world.do(event))
        for h in range(lots.houses):
            for number in [None] + pick.sample(range(1, world.ticks(h) + 1), min(3, world.ticks(h))):
                state = world.state(h) if number is None else world.sheet(h, number)
                late = other.state(h) if number is None else other.sheet(h, number)
                for j, (clock, heard, ((number, owner, value),)) in enumerate(state[0]):
                    row = [told.held_at(late, name, j) for name in ("k", "a", "o", "v")]
                    self.same(row, [clock, number, owner + 1, value])
                    self.same([told.held_at(late, "h", j, i) for i in range(lots.houses)], list(heard))
        self.same(other.history(), world.history())
        return world

    def test_random(self):
        """[188]: the same answers at the same times; the lots need not cross."""
        pick = random.Random(188)
        answers = two = 0
        for lots in itertools.chain(crossing_lots(1881, 30, 4), some_lots(1882, 25, 4)):
            world = self.beside(pick, lots, 500, some_way(pick, lots.houses))
            answers += sum(r[3] is not None for r in world.history())
            for h in range(lots.houses):
                turns = [tour[0] for tour in world.state(h)[4] if not tour[1]]
                two += len(turns) - len(set(turns))
        self.assertGreater(answers, 300)
        # Gets with a second tour, too.
        self.assertGreater(two, 5)

    def test_seven_houses(self):
        """[188]: majorities of seven houses."""
        pick = random.Random(7)
        lots = Lots.majority(7)
        text = memory_text(lots)
        world, other = World(Memory(lots)), World(Told.read(7, text))
        net = Net(7, Pattern([6], [(0, 1), (3, 2), (5, 4)]))
        answers = 0
        for _ in range(14):
            for h in range(7):
                event = ("begin", h, pick.choice(DEEDS))
                if world.can(event):
                    world.do(event), other.do(event)
            told = do_rounds(world, net, net.alive, 1)
            answers += len(told)
            self.same(do_rounds(other, net, net.alive, 1), told)
        self.assertGreater(answers, 10)
        for block in ("begin", "hear", "tick"):
            self.assertLess(step_bound(7, program_from(text), block), 10 ** 4)

    def test_put_first_deeds(self):
        """[188]: one house, and numbers at the two ends."""
        for v in VALUES:
            world = World(Told.read(1, memory_text(Lots(1, [[0]], [[0]]))))
            events = [("begin", 0, ("put", 0, v)), ("tick", 0), ("tick", 0), ("begin", 0, ("get", 0)), ("tick", 0)]
            self.same([world.do(event) for event in events], [None, None, v, None, v])

    def test_tables(self):
        lots = Lots(4, [[3, 1], [0]], [[0, 1], [2, 3, 0]])
        p = program_from(memory_text(lots))
        self.assertIn(lots.asked, [table for name, table in p.tables])
        self.assertIn(lots.heard, [table for name, table in p.tables])
        self.assertTrue({"k", "a", "o", "v"} <= set(p.rows) and "h" in p.grids)
        self.assertNotIn(lots.heard, [table for name, table in program_from(classic_text(lots)).tables])


def meeting_lots(seed, many, most_houses=4):
    """Lots of which every two asked lots have a house in common."""
    pick = random.Random(seed)
    for lots in some_lots(seed, many * 6, most_houses):
        if all(set(a) & set(b) for a in lots.asked for b in lots.asked):
            yield pick, lots


class Classic(LinksCase):
    def test_order(self):
        """[189]: the history has an order if every two asked lots meet."""
        deeds = 0
        for pick, lots in meeting_lots(189, 25):
            machine = Told.read(lots.houses, classic_text(lots))
            puts = [("put", 0, v) for v in range(1, 9)]
            world = play(pick, World(machine), 260, puts + [("get", 0)] * 8, some_way(pick, lots.houses))
            deeds += sum(r[3] is not None for r in world.history())
            self.assertTrue(has_order(world.history()[:14]))
            self.assertTrue(has_order(world.history()))
        self.assertGreater(deeds, 250)

    def test_one_deed_after_another(self):
        """[189]: the way of a put and a get, in rounds of all houses."""
        for n in (1, 2, 3, 7):
            lots = Lots.majority(n)
            net = Net(n, Pattern())
            world = World(Told.read(n, classic_text(lots)))
            held, rounds = 0, 2 if n == 1 else 5
            for v in (5, -3, 8):
                for h in range(n):
                    world.do(("begin", h, ("put", 0, v + h)))
                    self.same(do_rounds(world, net, net.alive, rounds)[-1], (rounds, h, v + h))
                    held = v + h
                    world.do(("begin", n - 1 - h, ("get", 0)))
                    self.same(do_rounds(world, net, net.alive, rounds)[-1], (rounds, n - 1 - h, held))

    def test_apart(self):
        """[189]: two asked lots apart: the get answers 0."""
        pick = random.Random(1890)
        for _ in range(30):
            n = pick.randint(2, 6)
            houses = pick.sample(range(n), n)
            cut = pick.randint(1, n - 1)
            one, other = houses[:cut], houses[cut:]
            world = World(Told.read(n, classic_text(Lots(n, [one, other], [houses]))))
            net = Net(n, Pattern())
            world.do(("begin", one[0], ("put", 0, 6)))
            self.same([row[1:] for row in do_rounds(world, net, one, 7)], [(one[0], 6)])
            world.do(("begin", other[0], ("get", 0)))
            self.same([row[1:] for row in do_rounds(world, net, other, 7)], [(other[0], 0)])
            self.assertFalse(has_order(world.history()))

    def test_heard_lots_do_not_count(self):
        """[189]: by the asked lots alone."""
        one, other = [classic_text(Lots(3, [[0, 1], [1, 2]], heard)) for heard in ([[0]], [[1, 2], [0, 2]])]
        self.same(one, other)


class Orders(LinksCase):
    def test_has_order(self):
        """The search for an order of these tests, on histories that are easy to judge."""
        put, got = lambda v, a, b: (0, ("put", 0, v), a, b, None if b is None else v), lambda v, a, b: (1, ("get", 0), a, b, v)
        rows = [
            ((), True), ((got(0, 0, 1),), True), ((got(5, 0, 1),), False), ((put(5, 0, None), got(5, 1, 2)), True),
            ((put(5, 0, None), got(5, 1, 2), got(0, 3, 4)), False), ((put(5, 0, 1), got(0, 2, 3)), False),
            ((put(5, 0, 3), got(0, 1, 2), got(5, 4, 5)), True), ((put(5, 0, None), got(0, 1, 2)), True),
            ((put(1, 0, 5), put(2, 1, 6), got(1, 7, 8), got(2, 9, 10)), False), ((got(None, 0, None),), True),
        ]
        for history, wanted in rows:
            self.assertIs(has_order(history), wanted)


if __name__ == "__main__":
    unittest.main()
