"""Point [248]: the stretch in which a wish is answered."""

import random
import unittest

from silentlinks.agreed import Agreed
from silentlinks.errors import BadHouse, BadNumber, IsFallen, OtherHouses
from silentlinks.lots import Lots
from silentlinks.nets import Net
from silentlinks.patterns import Pattern
from silentlinks.stretches import do_rounds
from silentlinks.telling import told_stretch
from silentlinks.worlds import World
from runs import play, some_nets, struck
from support import NO_NUMBERS, LinksCase, Reach, crossing_lots, some_lots, some_pattern
from wishes import WISHES, even_stretch, start_by


def told_by(lots, base, net, house, clocks):
    """[248] and the interface, word by word; None if the lots do not serve house."""
    reach = Reach(net.houses, net.pattern)
    part, past = reach.part(house), reach.past(house)
    asked = [lot for lot in lots.asked if set(lot) <= set(part)]
    heard = [lot for lot in lots.heard if set(lot) <= set(past)]
    if not asked or not heard:
        return None
    kmin, kmax = min(clocks[x] for x in past), max(clocks[x] for x in past)
    view = 0
    while True:
        leader = view % net.houses
        if leader in part:
            push = min(max(reach.far[x, leader] for x in lot) for lot in heard)
            accept = min(max(reach.far[leader, w] + max(1, reach.far[w, house]) for w in lot) for lot in asked)
            late = start_by(base, view) - clocks[leader] > reach.far[house, leader]
            if late and base + view > kmax - kmin + push + accept:
                return (view, start_by(base, view) - kmin + push + accept)
        view += 1


class Telling(LinksCase):
    def test_told(self):
        pick, none = random.Random(1), 0
        for net, reach in some_nets(21, 200, 5):
            for lots in some_lots(pick.random(), 6, net.houses):
                if lots.houses != net.houses:
                    continue
                for house in net.alive:
                    clocks = tuple(pick.randint(0, 40) for _ in range(net.houses))
                    base = pick.randint(1, 9)
                    wanted = told_by(lots, base, net, house, clocks)
                    none += wanted is None
                    self.same(told_stretch(lots, base, net, house, clocks), wanted)
        self.assertGreater(none, 20)

    def test_great_clocks(self):
        """Clocks of 30 digits are no matter of going through all views."""
        net = Net(2, Pattern())
        view, stretch = told_stretch(Lots.majority(2), 3, net, 0, (10 ** 29, 10 ** 29 + 5))
        self.assertTrue(10 ** 14 < view < 10 ** 15)
        self.assertLess(stretch, 10 ** 16)

    def test_errors(self):
        """OtherHouses, the base, the house."""
        net = Net(3, Pattern([1]))
        lots = Lots.majority(3)
        self.raises(OtherHouses(), told_stretch, Lots.majority(2), None, net, None, (0, 0, 0))
        for value in (0, -1) + NO_NUMBERS:
            self.raises(BadNumber("base"), told_stretch, lots, value, net, None, (0, 0, 0))
        for value in (3, -1) + NO_NUMBERS:
            self.raises(BadHouse(value), told_stretch, lots, 1, net, value, (0, 0, 0))
        self.raises(IsFallen(1), told_stretch, lots, 1, net, 1, (0, 0, 0))
        self.same(told_stretch(Lots(3, [[1]], [[0]]), 1, net, 0, (0, 0, 0)), None)

    def test_in_even_stretches(self):
        """[248]: behind any schedule within a pattern, even stretches within it answer by the stretch that is told."""
        pick, many = random.Random(22), 0
        for lots in crossing_lots(22, 260, 4):
            pattern = some_pattern(pick, lots.houses)
            net = Net(lots.houses, pattern)
            served = [house for house in net.alive if lots.serves(net, house)]
            if not served:
                continue
            house, base = pick.choice(served), pick.randint(1, 6)
            world = play(pick, World(Agreed(lots, base=base)), pick.randint(0, 120), WISHES, pattern)
            if world.deed(house) is None:
                world.do(("begin", house, pick.choice(WISHES)))
            clocks = tuple(world.ticks(x) for x in range(lots.houses))
            told = told_stretch(lots, base, net, house, clocks)
            past = Reach(lots.houses, pattern).past(house)
            stretches = 0
            while world.deed(house) is not None and stretches < told[1]:
                even_stretch(pick, world, net, past, pick.random() < 0.5)
                stretches += 1
            self.assertIs(world.deed(house), None)
            many += 1
        self.assertGreater(many, 60)

    def test_in_rounds(self):
        """[248]: rounds of the struck net are even stretches."""
        pick, many, late = random.Random(23), 0, 0
        for lots in crossing_lots(23, 150, 5):
            pattern = some_pattern(pick, lots.houses)
            net = Net(lots.houses, pattern)
            served = [house for house in net.alive if lots.serves(net, house)]
            if not served:
                continue
            house, base = pick.choice(served), pick.randint(1, 6)
            world = struck(pick, Agreed(lots, base=base), pattern)
            do_rounds(world, net, net.alive, pick.randint(0, 30))
            for x in net.alive:
                if x == house or pick.random() < 0.5:
                    world.do(("begin", x, pick.choice(WISHES)))
            clocks = tuple(world.ticks(x) for x in range(lots.houses))
            told = told_stretch(lots, base, net, house, clocks)
            answered = [number for number, x, _ in do_rounds(world, net, net.alive, told[1]) if x == house]
            self.assertEqual(len(answered), 1)
            late += answered[0] == told[1]
            many += 1
        self.assertGreater(many, 50)
        self.assertGreater(late, 0)


if __name__ == "__main__":
    unittest.main()
