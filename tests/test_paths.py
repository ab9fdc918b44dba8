"""Paths and walls: points [41] and [46], and silentlinks/paths.py."""

import itertools
import unittest

from silentlinks.nets import Net
from silentlinks.parts import past
from silentlinks.paths import path, path_holds, reached, reaches, wall, wall_holds
from silentlinks.patterns import Pattern
from support import NO_NUMBERS, LinksCase, Reach, sampled_patterns, subsets


def alive_pairs():
    for houses, pattern in sampled_patterns():
        plain = Reach(houses, pattern)
        for a, b in itertools.product(plain.alive, repeat=2):
            yield Net(houses, pattern), plain, a, b


class Paths(LinksCase):
    def test_reached(self):
        """[41]"""
        for net, plain, a, b in alive_pairs():
            self.same(reached(net, a), plain.after(a))
            self.assertIs(reaches(net, a, b), b in plain.after(a))
            if a == b:
                self.assertIs(reaches(net, a, a), True)

    def test_transitive(self):
        """[41]"""
        for net, plain, a, b in alive_pairs():
            if reaches(net, a, b):
                self.assertLessEqual(set(reached(net, b)), set(reached(net, a)))

    def test_path_or_wall(self):
        """[41]"""
        for net, plain, a, b in alive_pairs():
            row, side = path(net, a, b), wall(net, a, b)
            self.assertEqual([row is None, side is None], [b not in plain.after(a), b in plain.after(a)])
            if row is None:
                self.assertTrue(plain.holds_wall(a, b, side))
                self.same(side, plain.after(a))
            else:
                self.assertTrue(plain.holds_path(a, b, row))
                self.assertEqual(len(row), plain.far[a, b] + 1)
                self.assertLessEqual(len(row), net.houses)
            if a == b:
                self.same(row, (a,))

    def test_first_path(self):
        """Of the shortest paths the first one in ascending order."""
        for net, plain, a, b in alive_pairs():
            if net.houses <= 5:
                rows = list(plain.paths(a, b))
                self.same(path(net, a, b), min(rows, key=lambda row: (len(row), row)) if rows else None)
        net = Net(5, Pattern((), [(0, 4), (1, 4), (0, 2)]))
        self.same([path(net, 0, 4), path(net, 0, 2)], [(0, 3, 4), (0, 1, 2)])

    def test_least_wall(self):
        """[41]: the wall lies in each wall."""
        for net, plain, a, b in alive_pairs():
            side = wall(net, a, b)
            for row in subsets(plain.alive):
                if plain.holds_wall(a, b, row):
                    self.assertLessEqual(set(side), set(row))

    def test_one_more_silent(self):
        """[46]"""
        for houses, pattern in sampled_patterns():
            net = Net(houses, pattern)
            for link in net.links:
                less = Net(houses, pattern | Pattern((), [link]))
                changed = any(past(net, b) != past(less, b) for b in net.alive)
                self.assertIs(changed, not reaches(less, link[0], link[1]))


class Holding(LinksCase):
    def test_all_rows(self):
        """Of all rows of houses just the paths and walls hold."""
        for net, plain, a, b in alive_pairs():
            if net.houses <= 4:
                for size in range(len(plain.alive) + 1):
                    for row in itertools.permutations(range(net.houses), size):
                        self.assertIs(path_holds(net, a, b, row), plain.holds_path(a, b, row))
                        self.assertIs(path_holds(net, a, b, list(row)), plain.holds_path(a, b, row))
                        self.assertIs(wall_holds(net, a, b, row), plain.holds_wall(a, b, row))
                        self.assertIs(wall_holds(net, a, b, list(row)), plain.holds_wall(a, b, row))

    def test_own_rows_hold(self):
        for net, plain, a, b in alive_pairs():
            self.assertIs(path_holds(net, a, b, path(net, a, b)), b in plain.after(a))
            self.assertIs(wall_holds(net, a, b, wall(net, a, b)), b not in plain.after(a))

    def test_other_rows(self):
        net = Net(4, Pattern([3], [(0, 2), (1, 0), (1, 2), (2, 0), (2, 1)]))
        self.same([path_holds(net, 0, 1, (0, 1)), wall_holds(net, 0, 2, (1, 0))], [True, True])
        for row in (None, 0, "01", {0: 1, 1: 0}, {0, 1}, iter([0, 1]), range(2), b"01", ()):
            self.assertIs(path_holds(net, 0, 1, row), False)
            self.assertIs(wall_holds(net, 0, 2, row), False)
        for value in NO_NUMBERS + (3, 4, -1, {}, [0], 10 ** 30):
            self.assertIs(path_holds(net, 0, 1, [0, value]), False)
            self.assertIs(path_holds(net, 0, 1, [0, value, 1]), False)
            self.assertIs(wall_holds(net, 0, 2, [0, 1, value]), False)

    def test_true_is_no_house(self):
        net = Net(3, Pattern((), [(0, 2), (1, 2)]))
        self.same([path_holds(net, 1, 1, (1,)), wall_holds(net, 0, 2, (0, 1))], [True, True])
        for value in (True, 1.0):
            self.assertIs(path_holds(net, 1, 1, (value,)), False)
            self.assertIs(path_holds(net, 0, 1, (0, value)), False)
            self.assertIs(wall_holds(net, 0, 2, [0, value]), False)

    def test_twice(self):
        net = Net(3, Pattern())
        self.same([path_holds(net, 0, 2, (0, 1, 2)), path_holds(net, 0, 2, (0, 1, 0, 2))], [True, False])
        self.same([path_holds(net, 0, 0, row) for row in ((0,), (0, 1, 0), ())], [True, False, False])
        apart = Net(2, Pattern((), [(0, 1)]))
        self.same([wall_holds(apart, 0, 1, row) for row in ((0,), (0, 0), ())], [True, False, False])
        self.same([wall_holds(apart, 0, 0, (0,)), wall_holds(apart, 1, 0, (1,)), wall_holds(apart, 1, 1, ())], [False] * 3)

    def test_row_stays(self):
        row = [1, 0]
        wall_holds(Net(2, Pattern()), 0, 1, row)
        path_holds(Net(2, Pattern()), 0, 1, row)
        self.assertEqual(row, [1, 0])


if __name__ == "__main__":
    unittest.main()
