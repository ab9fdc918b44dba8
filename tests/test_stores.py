"""Stamps and stores: points [12] and [160], and silentlinks/stores.py."""

import itertools
import random
import unittest

from silentlinks.errors import BadNumber
from silentlinks.stores import at_most, blank_store, greater_stamp, joined, stamped
from support import NO_NUMBERS, LinksCase


def some_store(pick, many):
    return tuple((pick.randint(0, 3), pick.randint(-1, 2), pick.randint(-5, 5)) for _ in range(many))


class Stores(LinksCase):
    def test_blank(self):
        """[12]"""
        for many in (1, 2, 8):
            self.same(blank_store(many), ((0, -1, 0),) * many)
        for many in (0, -1) + NO_NUMBERS:
            self.raises(BadNumber("many"), blank_store, many)

    def test_greater(self):
        """[12]"""
        rows = [(0, -1), (0, 0), (0, 6), (1, -1), (1, 3), (2, 0), (10, 0)]
        for (i, one), (j, other) in itertools.product(enumerate(rows), repeat=2):
            for tail in ((), (9,)):
                self.assertIs(greater_stamp(one + tail, other), i > j)
                self.assertIs(greater_stamp(one, other + tail), i > j)
        self.assertIs(greater_stamp((1, 1, 9), (1, 1, 2)), False)

    def test_joined(self):
        """[12], [160]: at each register the triple with the greatest stamp, of equal stamps the one named first."""
        pick = random.Random(12)
        for _ in range(200):
            many = pick.randint(1, 4)
            stores = [some_store(pick, many) for _ in range(pick.randint(1, 4))]
            wanted = []
            for x in range(many):
                best = max((s[x][:2] for s in stores))
                wanted.append([s[x] for s in stores if s[x][:2] == best][0])
            self.same(joined(*stores), tuple(wanted))
            for one, other in itertools.product(stores, repeat=2):
                self.assertIs(at_most(one, other), all(a[:2] <= b[:2] for a, b in zip(one, other)))
            self.assertTrue(all(at_most(s, joined(*stores)) for s in stores))
        self.same([joined(), joined(((1, 2, 3),)), joined(((1, 2, 3),), ((1, 2, 4),))], [(), ((1, 2, 3),), ((1, 2, 3),)])

    def test_stamped(self):
        """stores.py: the join with the blank store that has the triple at one register."""
        pick = random.Random(160)
        for _ in range(100):
            many = pick.randint(1, 4)
            store, place, triple = some_store(pick, many), pick.randrange(many), some_store(pick, 1)[0]
            other = tuple(triple if x == place else (0, -1, 0) for x in range(many))
            self.same(stamped(store, place, triple), joined(store, other))
        store = ((2, 0, 7),)
        self.same([stamped(store, 0, (2, 0, 8)), stamped(store, 0, (2, 1, 8)), stamped(store, 0, (1, 5, 8))],
                  [store, ((2, 1, 8),), store])
        self.same(stamped(((-1, 0, 5), (0, -1, 3)), 1, (4, 4, 4)), ((0, -1, 0), (4, 4, 4)))


if __name__ == "__main__":
    unittest.main()
