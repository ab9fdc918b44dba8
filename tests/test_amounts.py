"""Numbers, sets and links: points [1] and [2], and silentlinks/amounts.py."""

import itertools
import unittest

from silentlinks.amounts import (
    all_links, check_number, common, house_count, house_of, house_set, is_number, link_set, merged, without,
)
from silentlinks.errors import BadHouse, BadHouses, BadLinks, BadNumber, BadSet
from support import NO_NUMBERS, LinksCase, links_between, subsets


class Numbers(LinksCase):
    def test_is_number(self):
        for value in (0, 1, -1, 10 ** 30, -10 ** 30):
            self.assertIs(is_number(value), True)
        for value in NO_NUMBERS:
            self.assertIs(is_number(value), False)

    def test_check_number(self):
        for value, least in ((3, 3), (4, 3), (-5, None), (0, 0), (-1, -1)):
            self.assertEqual(check_number(value, "x", least), value)
        for value, least in ((2, 3), (-1, 0), (-2, -1)):
            self.raises(BadNumber("x"), check_number, value, "x", least)
        for value in NO_NUMBERS:
            self.raises(BadNumber("many"), check_number, value, "many", None)
            self.raises(BadNumber("many"), check_number, value, "many", 0)

    def test_house_count(self):
        for value in range(1, 8):
            self.assertEqual(house_count(value), value)
        for value in (0, 8, -1, 10 ** 30) + NO_NUMBERS:
            self.raises(BadHouses(), house_count, value)

    def test_house_of(self):
        for houses in (1, 2, 7):
            for value in range(houses):
                self.assertEqual(house_of(houses, value), value)
            for value in (-1, houses, houses + 1) + NO_NUMBERS:
                self.raises(BadHouse(value), house_of, houses, value)


class Sets(LinksCase):
    def test_house_set(self):
        self.same(house_set(4, [3, 0, 2]), (0, 2, 3))
        for row in subsets(range(5)):
            for told in itertools.permutations(row):
                self.same(house_set(5, told), row)
                self.same(house_set(5, list(told)), row)

    def test_wrong_house_set(self):
        for row in (None, 3, "01", {0: 1}, {0, 1}, range(2), b"01", iter([0])):
            self.raises(BadSet(-1), house_set, 3, row)
        self.raises(BadSet(1), house_set, 3, [0, 3])
        self.raises(BadSet(2), house_set, 3, (0, 1, 0, 9))
        self.raises(BadSet(0), house_set, 3, [-1])
        self.raises(BadSet(1), house_set, 7, [0, 7])
        for value in NO_NUMBERS:
            self.raises(BadSet(1), house_set, 3, [0, value, 9])
        # True is equal to 1, but no house: it is wrong by its kind, not as a double.
        self.raises(BadSet(0), house_set, 3, [True, 1])

    def test_link_set(self):
        self.same(link_set(3, [[2, 0], (0, 1)]), ((0, 1), (2, 0)))
        self.same(link_set(3, ()), ())
        for row in subsets(links_between(3)):
            self.same(link_set(3, [list(link) for link in reversed(row)]), row)

    def test_wrong_link_set(self):
        for row in (None, 3, "01", {(0, 1)}, {(0, 1): 2}, iter(())):
            self.raises(BadLinks(-1), link_set, 3, row)
        self.raises(BadLinks(1), link_set, 3, [(0, 1), [0, 1]])
        self.raises(BadLinks(1), link_set, 3, [[0, 1], (0, 1), (0, 3)])
        for member in ((0, 0), (0, 3), (3, 0), (0,), (0, 1, 2), (), "01", {0, 1}, 7, None, (-1, 0)):
            self.raises(BadLinks(1), link_set, 3, [(0, 1), member])
        for value in NO_NUMBERS:
            self.raises(BadLinks(0), link_set, 3, [(value, 0)])
            self.raises(BadLinks(0), link_set, 3, [(0, value)])

    def test_all_links(self):
        self.same(all_links(1), ())
        self.same(all_links(3), ((0, 1), (0, 2), (1, 0), (1, 2), (2, 0), (2, 1)))
        self.assertEqual(len(all_links(7)), 42)

    def test_of_two_rows(self):
        for first in subsets(range(4)):
            for second in subsets(range(4)):
                self.same(merged(first, second), tuple(sorted({*first, *second})))
                self.same(common(first, second), tuple(x for x in first if x in second))
                self.same(without(first, second), tuple(x for x in first if x not in second))
        self.same(merged(((0, 2),), ((0, 1), (0, 2))), ((0, 1), (0, 2)))

    def test_handed_in_stays(self):
        row, links = [2, 0], [[1, 0], [0, 1]]
        house_set(3, row)
        told = link_set(3, links)
        self.assertEqual([row, links], [[2, 0], [[1, 0], [0, 1]]])
        links[0][0] = 2
        self.same(told, ((0, 1), (1, 0)))


if __name__ == "__main__":
    unittest.main()
