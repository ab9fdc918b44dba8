"""Points [9], [200] and [206]: the first order of small histories."""

import random
import unittest

from silentlinks.apart import by_registers
from silentlinks.errors import BadRecord, TooManyDeeds
from silentlinks.search import find_order
from orders import MIXED, PLAIN, all_orders, is_order_by, some_histories
from support import LinksCase


def concurrent(many):
    """So many records that all overlap: puts of register 0 and gets that answer one of them."""
    rows = []
    for k in range(many):
        deed = ("put", 0, k + 1) if k % 2 == 0 else ("get", 0)
        rows.append((k, deed, k, 100 + k, k if k % 2 == 1 else k + 1))
    return rows


class Search(LinksCase):
    def test_against_all_rows(self):
        """find_order is the least of all orders, the shorter row first."""
        none = 0
        for history in some_histories(11, 500, MIXED, 5):
            orders = sorted(all_orders(history))
            self.same(find_order(history), orders[0] if orders else None)
            none += not orders
        self.assertTrue(50 < none < 450)

    def test_one_register(self):
        for history in some_histories(12, 300, [("get", 0), ("put", 0, 1), ("put", 0, 2)], 5):
            orders = sorted(all_orders(history))
            self.same(find_order(history), orders[0] if orders else None)

    def test_limits(self):
        """9 records are searched, 10 are too many, behind BadRecord."""
        nine = concurrent(9)
        found = find_order(nine)
        self.assertTrue(is_order_by(nine, found))
        self.raises(TooManyDeeds(10), find_order, concurrent(10))
        self.raises(TooManyDeeds(10), find_order, tuple(concurrent(10)))
        self.raises(TooManyDeeds(57), find_order, concurrent(57))
        self.raises(BadRecord(10), find_order, concurrent(10) + [None])
        self.raises(BadRecord(-1), find_order, None)
        self.raises(BadRecord(1), find_order, [nine[0], nine[0]])

    def test_hard_ones(self):
        """9 overlapping records without an order end soon."""
        rows = [(k, ("put", k % 3, k + 1), k, 100 + k, 0) for k in range(8)]
        self.same(find_order(rows + [(8, ("look", 3), 50, 60, (1, 1, 1))]), None)

    def test_small_ones(self):
        self.same(find_order(()), ())
        self.same(find_order([(0, ("get", 0), 0, None, None)]), ())
        self.same(find_order([(0, ("put", 0, 1), 0, None, None)]), ())
        self.same(find_order([(0, ("get", 5), 0, 1, 1)]), None)
        self.same(find_order([[0, ["look", 2], 0, 1, [0, 0]]]), (0,))

    def test_register_by_register(self):
        """[206]: gets and puts have an order exactly if those of each register have one."""
        found = set()
        for history in some_histories(13, 400, PLAIN, 6):
            parts = [find_order(part) is not None for _, part in by_registers(history)]
            found.add(all(parts))
            self.assertEqual(find_order(history) is not None, all(parts))
        self.assertEqual(found, {True, False})

    def test_asked_twice(self):
        pick = random.Random(3)
        for history in some_histories(14, 30, MIXED, 6):
            told = find_order(history)
            kept = [list(record) for record in history]
            pick.shuffle(history)
            self.same(find_order(kept), told)


if __name__ == "__main__":
    unittest.main()
