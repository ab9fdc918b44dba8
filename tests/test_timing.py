"""When tours are echoed and end: points [6], [14] and [166] to [168], and silentlinks/timing.py."""

import random
import unittest

from silentlinks.errors import BadHouse, BadNumber, IsFallen, OtherHouses
from silentlinks.lots import Lots
from silentlinks.memory import Memory
from silentlinks.nets import Net
from silentlinks.patterns import Pattern
from silentlinks.served import back_time, echo_time, push_time
from silentlinks.stretches import Within, do_rounds, stretch_ends
from silentlinks.timing import echo_stretch, late_stretch, told_tour
from silentlinks.tours import Touring, tours_of
from silentlinks.views import past_times
from silentlinks.worlds import World
from runs import TOURS, loose_stretch, play, struck
from support import NO_NUMBERS, LinksCase, Reach, some_lots, some_pattern
from touring import deeds_for, some_memory


def cases(seed, many, most_houses=5, crossing=False):
    """Lots, a net and its plain reading."""
    pick = random.Random(seed)
    for lots in some_lots(seed, many, most_houses):
        if crossing and not lots.crossing:
            continue
        pattern = some_pattern(pick, lots.houses)
        yield pick, lots, Net(lots.houses, pattern), Reach(lots.houses, pattern)


class Told(LinksCase):
    def test_words(self):
        seen = set()
        for pick, lots, net, plain in cases(168, 200):
            for b in net.alive:
                e, p, back = echo_time(lots, net, b), push_time(lots, net, b), back_time(lots, net, b)
                served = lots.serves(net, b)
                seen.add((served, e is None, p is None))
                begin, number = pick.randint(1, 9), pick.randint(0, 20)
                known = [pick.randint(0, 15) for _ in range(lots.houses)]
                self.same(told_tour(lots, net, b, begin), (begin + e, begin + e - back, begin + e + max(0, p - back)) if served else None)
                self.same(echo_stretch(lots, net, b), None if e is None else e + 1)
                wanted = None
                if served:
                    past = [lot for lot in lots.heard if set(lot) <= set(plain.past(b))]
                    lot = [lot for lot in past if max(plain.far[x, b] for x in lot) == p][0]
                    wanted = e + 1 + max([1] + [number - known[x] for x in lot]) + p
                self.same(late_stretch(lots, net, b, number, known), wanted)
                self.same(late_stretch(lots, net, b, number, tuple(known)), wanted)
        self.assertEqual(seen, {(True, False, False), (False, True, False), (False, False, True), (False, True, True)})

    def test_wrong(self):
        lots, net = Lots(2, [[0]], [[0]]), Net(2, Pattern([1]))
        calls = (lambda *args: told_tour(*args, 0), echo_stretch, lambda *args: late_stretch(*args, 3, (1, 1)))
        for call in calls:
            self.raises(OtherHouses(), call, lots, Net(3, Pattern([1])), 9)
            self.raises(IsFallen(1), call, lots, net, 1)
            for house in (-1, 2) + NO_NUMBERS:
                self.raises(BadHouse(house), call, lots, net, house)
        for begin in (0, -1) + NO_NUMBERS:
            self.raises(BadNumber("begin"), told_tour, lots, net, 0, begin)
            # Also where None would be returned.
            self.raises(BadNumber("begin"), told_tour, Lots(2, [[1]], [[1]]), net, 0, begin)


class InRounds(LinksCase):
    def test_exactly(self):
        """[166], [168]: in rounds behind the strike, with any begins between rounds."""
        tours = halves = never = 0
        for pick, lots, net, plain in cases(1681, 150, 4):
            machine = Touring(lots) if pick.random() < 0.4 else some_memory(pick, lots, 2)
            deeds = TOURS if type(machine) is Touring else deeds_for(pick, machine.registers)
            world = struck(pick, machine, net.pattern)
            for t in range(1, 30):
                for h in net.alive:
                    event = ("begin", h, pick.choice(deeds))
                    if pick.random() < 0.3 and world.can(event):
                        world.do(event)
                do_rounds(world, net, net.alive, 1)
            for p in net.alive:
                for tour in tours_of(world.state(p)):
                    # House p ticks once in each round, so that rounds are its clocks.
                    turn, half, first, put, number, last, result = tour
                    told = told_tour(lots, net, p, first)
                    if told is None:
                        never += 1
                        self.assertIsNone(result)
                    elif half and told[0] < 30:
                        halves += 1
                        self.same((last, number), told[:2])
                    elif told[2] < 30:
                        tours += 1
                        self.same((number, last), told[1:])
                    self.assertTrue(told is not None or half or last is None)
        self.assertGreater(min(tours, halves, never), 100)

    def test_echo_round(self):
        """[168]: the round in which it is echoed."""
        seen = 0
        for pick, lots, net, plain in cases(1682, 120, 4):
            for p in net.alive:
                told = told_tour(lots, net, p, 2)
                if told is None:
                    continue
                world = struck(pick, Touring(lots), net.pattern)
                do_rounds(world, net, net.alive, 1)
                world.do(("begin", p, ("tour", 5)))
                for t in range(2, told[2] + 1):
                    do_rounds(world, net, net.alive, 1)
                    # The sheet of the tick of this round tells what was looked at in it.
                    tour = tours_of(world.sheet(p, t))[0]
                    self.assertIs(tour[4] is not None, t >= told[0])
                    self.assertIs(tour[5] is not None, t >= told[2])
                seen += 1
                self.same(tour[4:6], told[1:])
        self.assertGreater(seen, 80)

    def test_unserved(self):
        """[166]: no whole tour of a house that is not served ever ends, whatever is done within the pattern's strike."""
        seen = 0
        for pick, lots, net, plain in cases(166, 120, 4):
            pattern = Pattern(net.pattern.fallen, net.pattern.silent)
            world = struck(pick, Touring(lots), pattern)
            for _ in range(150):
                word = pick.choice(("tick", "tick", "hand", "hand", "begin"))
                h, other = pick.randrange(lots.houses), pick.randrange(lots.houses)
                event = {"tick": ("tick", h), "begin": ("begin", h, ("tour", 1)), "hand": ("hand", h, world.ticks(h), other)}[word]
                if world.can(event):
                    world.do(event)
            for p in net.alive:
                if not lots.serves(net, p):
                    seen += 1
                    self.assertTrue(all(tour[6] is None for tour in tours_of(world.state(p))))
        self.assertGreater(seen, 100)


class FromAnyWorld(LinksCase):
    def test_stretches(self):
        """[167]: behind any schedule within the pattern, in stretches that serve the past."""
        seen = late = 0
        for pick, lots, net, plain in cases(167, 260, 4):
            served = [p for p in net.alive if lots.serves(net, p)]
            if not served:
                continue
            p = pick.choice(served)
            world = play(pick, World(Touring(lots)), pick.randint(0, 60), TOURS, net.pattern)
            if not all(world.awake(x) for x in plain.past(p)):
                continue
            self.assertTrue(Within(net.pattern)(list(world)))
            if world.deed(p) is None:
                world.do(("begin", p, ("tour", 7)))
            start = world.clock
            before = [world.ticks(h) for h in range(lots.houses)]
            early = len(tours_of(world.state(p)))
            running = world.state(p)[3] is not None
            for _ in range(25):
                loose_stretch(pick, world, net, plain.past(p))
            tour = tours_of(world.state(p))[early - running]
            s = list(world)
            times = [t for t, e in enumerate(s) if e == ("tick", p)]
            self.assertLessEqual(tour[2], before[p] + 1)
            ends = stretch_ends(net, plain.past(p), s, start)
            first_ticks = [next(t for t in times if t >= begun) for begun in [start] + [end + 1 for end in ends[:-1]]]
            echoed = self.tick_of_echo(world, p, tour)
            self.assertLessEqual(times[echoed - 1], first_ticks[echo_stretch(lots, net, p) - 1])
            known = [s[:times[echoed - 1]].count(("tick", h)) for h in range(lots.houses)]
            limit = late_stretch(lots, net, p, tour[4], known)
            seen += 1
            if limit < len(ends):
                late += 1
                self.assertLessEqual(times[tour[5] - 1], first_ticks[limit - 1])
        self.assertGreater(min(seen, late), 30)

    def tick_of_echo(self, world, p, tour):
        """The number of the tick in which the tour was echoed."""
        for number in range(tour[2], world.ticks(p) + 1):
            found = [t for t in tours_of(world.sheet(p, number)) if t[2] == tour[2]]
            if found and found[0][4] is not None:
                return number
        self.fail("not echoed")


if __name__ == "__main__":
    unittest.main()
