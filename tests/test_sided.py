"""Two sorts of lots: point [190], and silentlinks/sided.py."""

import random
import unittest

from silentlinks.errors import BadLots, OtherHouses
from silentlinks.lots import Lots
from silentlinks.sided import Sided
from silentlinks.stretches import do_all
from silentlinks.tours import Touring, tours_in
from silentlinks.worlds import World
from runs import play
from support import NO_NUMBERS, LinksCase, some_rows
from test_tours import NO_LOTS
from touring import some_way

LOTS = Lots(2, [[0]], [[1]])


def meets(rows, others):
    return all(set(one) & set(other) for one in rows for other in others)


def sided_lots(seed, many):
    """Pairs of Lots as [190] tells: asked lots of the one meet heard lots of the other."""
    pick = random.Random(seed)
    while many > 0:
        n = pick.randint(1, 4)
        puts, gets = [Lots(n, some_rows(pick, n, 2), some_rows(pick, n, 2)) for _ in range(2)]
        if meets(puts.asked, gets.heard) and meets(puts.heard, gets.asked):
            many -= 1
            yield pick, puts, gets


class Machines(LinksCase):
    def test_made(self):
        self.assertTrue(issubclass(Sided, Touring))
        for name in ("admits", "lots_for", "plan"):
            self.assertIn(name, vars(Sided))
        machine = Sided(LOTS, ~LOTS)
        self.same([machine.houses, machine.registers, machine.fresh(1)[0][0]], [2, 1, (0, (0, 0), ((0, -1, 0),))])
        self.assertTrue(machine.puts == LOTS and machine.gets == ~LOTS)
        self.assertTrue(machine.lots_for(("put", 0, 1)) == LOTS and machine.lots_for(("get", 0)) == ~LOTS)

    def test_wrong(self):
        for value in NO_LOTS:
            self.raises(BadLots("asked", -1), Sided, value, LOTS)
            self.raises(BadLots("asked", -1), Sided, LOTS, value)
            self.raises(BadLots("asked", -1), Sided, Lots(3, [[0]], [[1]]), value)
        self.raises(OtherHouses(), Sided, LOTS, Lots(3, [[0]], [[1]]))

    def test_admits(self):
        machine = Sided(LOTS, LOTS)
        for deed in (("get", 0), ("put", 0, 0), ("put", 0, -5), ("put", 0, 10 ** 29)):
            self.assertIs(machine.admits(1, deed), True)
        wrong = [(), ("get",), ("get", 1), ("get", -1), ("get", 0, 0), ("put", 0), ("put", 1, 5), ("put", 0, 1, 2), ("look",), ("tour", 1)]
        wrong += [("get", x) for x in NO_NUMBERS] + [("put", x, 1) for x in NO_NUMBERS] + [("put", 0, x) for x in NO_NUMBERS]
        for deed in wrong:
            self.assertIs(machine.admits(0, deed), False)

    def test_plan(self):
        machine = Sided(LOTS, LOTS)
        tour = (4, False, 1, ((1, 0, 5),), 3, 2, ((2, 1, 6),))
        self.same(machine.plan(1, 4, ("put", 0, 9), ()), ("whole", (0, (5, 1, 9))))
        self.same(machine.plan(1, 4, ("put", 0, 9), (tour,)), ("answer", 9))
        self.same(machine.plan(1, 4, ("get", 0), ()), ("whole", None))
        self.same(machine.plan(1, 4, ("get", 0), (tour,)), ("answer", 6))

    def test_each_sort(self):
        """[190]: a put by the lots puts, a get by the lots gets; the get answers the value of RESULT."""
        # House 0 puts without a sheet; house 1 gets only behind one of house 0.
        world = World(Sided(Lots(2, [[0]], [[0]]), Lots(2, [[1]], [[0]])))
        told = do_all(world, [("begin", 0, ("put", 0, 5)), ("tick", 0), ("begin", 1, ("get", 0)), ("tick", 1), ("tick", 1),
                              ("hand", 0, 1, 1), ("tick", 1)])
        self.same(told, [(1, 0, 5), (6, 1, 5)])
        self.same([tour[3][0][2] for house, tour in tours_in(world)], [5, 0])


class Facts(LinksCase):
    def test_one_put(self):
        """[190]"""
        seen = {True: 0, False: 0}
        for pick, puts, gets in sided_lots(190, 250):
            world = World(Sided(puts, gets))
            way = some_way(pick, puts.houses)
            play(pick, world, pick.randint(0, 60), [("get", 0)], way)
            putter = pick.randrange(puts.houses)
            if world.can(("begin", putter, ("put", 0, 7))):
                world.do(("begin", putter, ("put", 0, 7)))
            play(pick, world, 250, [("get", 0)], way)
            put = [record for record in world.history() if record[1][0] == "put"]
            for house, deed, begun, ended, answer in world.history():
                if deed[0] == "put" and ended is not None:
                    self.same(answer, 7)
                if deed[0] == "get" and ended is not None:
                    self.assertIn(answer, (0, 7))
                    if put and put[0][3] is not None and put[0][3] < begun:
                        seen[True] += 1
                        self.same(answer, 7)
                    if not put or put[0][2] > ended:
                        seen[False] += 1
                        self.same(answer, 0)
        self.assertGreater(min(seen.values()), 100)


if __name__ == "__main__":
    unittest.main()
