"""Machines: point [7], and silentlinks/machines.py."""

import unittest

from silentlinks.errors import BadHouses
from silentlinks.machines import Gossip, Machine
from support import NO_NUMBERS, LinksCase


class Base(LinksCase):
    def test_houses(self):
        for made in (Machine, Gossip):
            for houses in range(1, 8):
                self.assertEqual(made(houses).houses, houses)
            for houses in (0, 8, -1) + NO_NUMBERS:
                self.raises(BadHouses(), made, houses)

    def test_methods(self):
        machine = Machine(2)
        self.same([machine.fresh(0), machine.fresh(1)], [(0,), (0,)])
        state = (4,)
        self.assertIs(machine.begin(state, 0, ("get", 0)), state)
        self.assertIs(machine.hear(state, 0, 1, (9,)), state)
        self.same([machine.tick(state, 0), state], [((5,), None), (4,)])
        for deed in (("get", 0), ("tour", 1), (), ("look",)):
            self.assertIs(machine.admits(0, deed), False)

    def test_own_methods(self):
        self.assertTrue(issubclass(Gossip, Machine))
        for made in (Machine, Gossip):
            for name in ("fresh", "begin", "hear", "tick", "admits"):
                self.assertIn(name, vars(made))


class Gossips(LinksCase):
    def test_fresh(self):
        for houses in (1, 2, 7):
            for me in range(houses):
                self.same(Gossip(houses).fresh(me), ((0,) * houses, None, 0))

    def test_begin(self):
        machine = Gossip(2)
        self.same(machine.begin(((3, 4), None, 1), 0, ("tour", 7)), ((3, 4), 7, 0))
        self.same(machine.begin(((3, 4), None, 0), 1, ("tour", 0)), ((3, 4), 0, 0))

    def test_hear(self):
        machine = Gossip(3)
        self.same(machine.hear(((3, 0, 5), None, 0), 0, 1, ((1, 4, 5), 9, 0)), ((3, 4, 5), None, 1))
        self.same(machine.hear(((3, 0, 5), 8, 1), 2, 1, ((0, 0, 6), None, 1)), ((3, 0, 6), 8, 1))

    def test_tick(self):
        machine = Gossip(3)
        self.same(machine.tick(((3, 0, 5), None, 0), 1), (((3, 1, 5), None, 0), None))
        self.same(machine.tick(((3, 0, 5), None, 1), 2), (((3, 0, 6), None, 1), None))
        self.same(machine.tick(((3, 0, 5), 8, 0), 0), (((4, 0, 5), 8, 0), None))
        self.same(machine.tick(((3, 0, 5), 8, 1), 0), (((4, 0, 5), None, 0), 8))
        self.same(machine.tick(((3, 0, 5), 0, 1), 0), (((4, 0, 5), None, 0), 0))

    def test_one_house(self):
        machine = Gossip(1)
        self.same(machine.tick(((2,), 5, 0), 0), (((3,), None, 0), 5))
        self.same(machine.tick(((2,), None, 0), 0), (((3,), None, 0), None))

    def test_admits(self):
        machine = Gossip(2)
        for number in (0, 5, -5, 10 ** 29):
            self.assertIs(machine.admits(1, ("tour", number)), True)
        wrong = [(), ("tour",), ("tour", 1, 2), ("get", 0), ("put", 0, 1), ("look",), (1, 1), (None, 1)]
        wrong += [["tour", 1], "tour", None]
        for deed in wrong + [("tour", value) for value in NO_NUMBERS]:
            self.assertIs(machine.admits(0, deed), False)


if __name__ == "__main__":
    unittest.main()
