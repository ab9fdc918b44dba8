"""Point [206]: histories register by register, and orders joined."""

import random
import unittest

from silentlinks.apart import by_registers, joined_order
from silentlinks.errors import BadRecord, NotOne
from silentlinks.judging import is_order
from orders import PLAIN, all_orders, some_histories
from support import LinksCase


class Apart(LinksCase):
    def test_parts(self):
        for history in some_histories(31, 200, PLAIN, 6):
            names = sorted({record[1][1] for record in history})
            wanted = tuple((x, tuple(record for record in history if record[1][1] == x)) for x in names)
            self.same(by_registers(history), wanted)
            self.same(by_registers([list(record) for record in history]), wanted)

    def test_gaps(self):
        """Registers with gaps between them; lists become tuples."""
        records = [[0, ["put", 9, 1], 0, 1, "x"], (1, ("get", 2), 2, None, None), (0, ("get", 9), 4, 5, 1)]
        self.same(by_registers(records), (
            (2, ((1, ("get", 2), 2, None, None),)), (9, ((0, ("put", 9, 1), 0, 1, "x"), (0, ("get", 9), 4, 5, 1)))))
        self.same(joined_order(records, [(), [0, 1]]), (0, 2))
        self.same([by_registers(()), joined_order([], ()), joined_order([], [()])], [(), (), None])

    def test_joined(self):
        """Each choice of orders of the parts is joined into an order that keeps them, with no other deeds."""
        pick = random.Random(5)
        many = 0
        for history in some_histories(32, 400, PLAIN, 6):
            parts = by_registers(history)
            choices = [all_orders(part) for _, part in parts]
            if not all(choices):
                continue
            rows = [pick.choice(rows) for rows in choices]
            told = joined_order(history, pick.choice((rows, tuple(rows), [list(row) for row in rows])))
            self.assertIs(type(told), tuple)
            self.assertTrue(is_order(history, told))
            for (x, _), row in zip(parts, rows):
                places = [at for at, record in enumerate(history) if record[1][1] == x]
                self.assertEqual([at for at in told if at in places], [places[at] for at in row])
            many += len(parts) > 1
        self.assertGreater(many, 50)

    def test_no_orders(self):
        records = ((0, ("put", 0, 3), 0, 1, 3), (1, ("put", 2, 7), 2, 3, 7), (1, ("get", 0), 4, 5, 3))
        self.same(joined_order(records, ((0, 1), (0,))), (0, 1, 2))
        wrong = [None, 5, (), ((0, 1),), ((0, 1), (0,), ()), ((1, 0), (0,)), ((0, 1), ()), ((0, 1), None), ((0, True), (0,)),
                 {0: (0, 1), 1: (0,)}, ((0, 1), (1,)), "ab"]
        for rows in wrong:
            self.same(joined_order(records, rows), None)

    def test_wrong_histories(self):
        look = (2, ("look", 1), 10, 12, (0,))
        records = [(0, ("put", 0, 3), 0, 1, 3), look, look[:2] + (20, None, None)]
        for call in (by_registers, lambda rows: joined_order(rows, None)):
            self.raises(NotOne(1), call, records)
            self.raises(BadRecord(3), call, records + [None])
            self.raises(BadRecord(-1), call, None)


if __name__ == "__main__":
    unittest.main()
