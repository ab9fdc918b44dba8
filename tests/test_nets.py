"""Nets: points [4], [40] and [43], and silentlinks/nets.py."""

import random
import unittest

from silentlinks import echoes, kept, parts, paths
from silentlinks.books import Book
from silentlinks.errors import BadHouse, BadHouses, BadNumber, BadPattern, IsFallen
from silentlinks.nets import Net, net_of
from silentlinks.patterns import Pattern
from support import (
    NO_NUMBERS, LinksCase, Reach, all_patterns, harder_pattern, links_between, sampled_patterns, some_patterns,
)


class Nets(LinksCase):
    def test_attributes(self):
        for houses, pattern in sampled_patterns():
            net, plain = Net(houses, pattern), Reach(houses, pattern)
            self.assertEqual(net.houses, houses)
            self.assertTrue(net.pattern == pattern)
            self.same([net.alive, net.links], [tuple(plain.alive), tuple(sorted(plain.links))])

    def test_wrong(self):
        for houses in (0, 8) + NO_NUMBERS:
            self.raises(BadHouses(), Net, houses, None)
        for pattern in (None, "clear", (), Pattern([2]), Pattern((), [(0, 2)])):
            self.raises(BadPattern(-1), Net, 2, pattern)

    def test_all_fallen(self):
        net = Net(2, Pattern([0, 1], [(0, 1)]))
        self.same([net.alive, net.links, parts.parts(net), parts.ordered_parts(net)], [(), (), (), ()])
        self.assertIsNone(parts.majority_part(net))
        self.raises(IsFallen(0), net.after, 0)

    def test_lasts(self):
        for houses, pattern in sampled_patterns():
            net = Net(houses, pattern)
            for a in range(-1, houses + 1):
                for b in range(-1, houses + 1):
                    self.assertIs(net.lasts(a, b), (a, b) in net.links)
        net = Net(3, Pattern())
        for value in NO_NUMBERS + ({}, [0], {1}):
            self.assertIs(net.lasts(value, 2), False)
            self.assertIs(net.lasts(2, value), False)
        self.assertIs(net.lasts(10 ** 29, 0), False)

    def test_after_and_before(self):
        for houses, pattern in sampled_patterns():
            net = Net(houses, pattern)
            for house in net.alive:
                self.same(net.after(house), tuple(b for a, b in net.links if a == house))
                self.same(net.before(house), tuple(a for a, b in net.links if b == house))

    def test_equality(self):
        first = Net(2, Pattern([0]))
        self.assertIs(first == Net(2, Pattern([0], [(0, 1), (1, 0)])), True)
        self.assertIs(first == Net(3, Pattern([0])), False)
        self.assertIs(first == Net(3, Pattern([0, 2])), False)
        self.assertIs(first == Net(2, Pattern([1])), False)
        self.assertIs(Net(2, Pattern()) == Net(2, Pattern((), [(0, 1)])), False)
        for other in (None, first.pattern, (2, (1,), ())):
            self.assertIs(first == other, False)

    def test_net_of(self):
        book = Book(3, [Pattern([0]), Pattern((), [(0, 1)])])
        for number, pattern in enumerate(book):
            self.assertTrue(net_of(book, number) == Net(3, pattern))
            self.assertTrue(net_of(book, number).pattern == pattern)
        for number in (-1, 2) + NO_NUMBERS:
            self.raises(BadPattern(number), net_of, book, number)


class Checked(LinksCase):
    """[40]: each function of the stage, with a wrong house at each place of its arguments."""

    ROWS = [
        (paths.reached, 1, ()), (paths.reaches, 2, ()), (paths.path, 2, ()), (paths.wall, 2, ()),
        (paths.path_holds, 2, (None,)), (paths.wall_holds, 2, (None,)), (parts.past, 1, ()), (parts.part, 1, ()),
        (echoes.distances, 1, ()), (echoes.distance, 2, ()), (echoes.round_trip, 2, ()), (echoes.echo, 1, (-1,)),
        (echoes.full_span, 1, ()), (echoes.inner, 1, (-1,)), (kept.kept_links, 1, ()), (kept.hushed, 1, ()),
        (Net.after, 1, ()), (Net.before, 1, ()),
    ]
    net = Net(3, Pattern([2]))

    def test_wrong_houses(self):
        for call, many, more in self.ROWS:
            for at in range(many):
                for value in (-1, 3) + NO_NUMBERS:
                    told = [0] * at + [value] + [2] * (many - at - 1)
                    self.raises(BadHouse(value), call, self.net, *told, *more)
                told = [1] * at + [2] + [9] * (many - at - 1)
                self.raises(IsFallen(2), call, self.net, *told, *more)

    def test_limits(self):
        for call in (echoes.echo, echoes.inner):
            for value in (-1,) + NO_NUMBERS:
                self.raises(BadNumber("limit"), call, self.net, 0, value)
            self.same([call(self.net, 0, 0), call(self.net, 0, 10 ** 30)], [(0,), (0, 1)])


class Harsher(LinksCase):
    """[43]"""

    def pairs(self):
        pick = random.Random(43)
        for houses in (2, 3, 5, 7):
            for q in some_patterns(houses, 30, houses):
                yield houses, harder_pattern(pick, q, houses), q

    def test_less_is_left(self):
        for houses, p, q in self.pairs():
            few, many = Net(houses, p), Net(houses, q)
            for b in few.alive:
                self.assertLessEqual(set(parts.past(few, b)), set(parts.past(many, b)))
                self.assertLessEqual(set(parts.part(few, b)), set(parts.part(many, b)))
                for t in range(2 * houses):
                    self.assertLessEqual(set(echoes.echo(few, b, t)), set(echoes.echo(many, b, t)))
                for less, more in zip(echoes.distances(many, b), echoes.distances(few, b)):
                    self.assertTrue(more is None or less <= more)
            for row in parts.parts(few):
                self.assertTrue(any(set(row) <= set(other) for other in parts.parts(many)))

    def test_exactly(self):
        for houses in (2, 3):
            rows = all_patterns(houses)[::1 if houses == 2 else 11]
            for p in rows:
                for q in rows:
                    few, many = Net(houses, p), Net(houses, q)
                    told = set(few.alive) <= set(many.alive) and all(
                        set(few.after(b)) <= set(many.after(b)) for b in few.alive)
                    self.assertIs(p.harsher(q), told)


class HandedIn(LinksCase):
    def test_later_changes(self):
        """[1]: what was handed in may be changed afterwards."""
        silent = links_between(2)
        net = Net(2, Pattern((), silent))
        silent.clear()
        self.same([net.links, net.after(0), parts.parts(net)], [(), (), ((0,), (1,))])


if __name__ == "__main__":
    unittest.main()
