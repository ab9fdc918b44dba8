"""Points [200] to [202]: whether rows are orders, and why not."""

import random
import unittest

from silentlinks.errors import BadRecord
from silentlinks.judging import first_wrong, is_order
from orders import MIXED, all_rows, all_orders, is_order_by, some_histories
from support import NO_NUMBERS, LinksCase

PUT = (0, ("put", 0, 5), 0, 3, 5)
EARLY = (1, ("get", 0), 1, 2, 0)
LATE = (1, ("get", 0), 4, 6, 5)


def reason(history, row):
    """[201], word by word."""
    many = len(history)
    ended = [record[3] is not None for record in history]
    for place in range(many):
        if ended[place] and place not in row:
            return ("missing", place)
    for place in range(many):
        if not ended[place] and history[place][1][0] != "put" and place in row:
            return ("unended", place)
    for at, place in enumerate(row):
        if any(ended[x] and history[x][3] < history[place][2] for x in row[at + 1:]):
            return ("time", at)
    held = {}
    for at, place in enumerate(row):
        deed = history[place][1]
        if deed[0] == "put":
            held[deed[1]] = deed[2]
        elif deed[0] == "get" and history[place][4] != held.get(deed[1], 0):
            return ("answer", at)
        elif deed[0] == "look" and list(history[place][4]) != [held.get(x, 0) for x in range(deed[1])]:
            return ("answer", at)
    return None


class Judging(LinksCase):
    def test_reasons_of_all_rows(self):
        """[201]: every row of small histories, by the words and by a plain reading of [9]."""
        seen = set()
        for history in some_histories(1, 250, MIXED, 4):
            for row in all_rows(len(history)):
                wanted = reason(history, row)
                seen.add(wanted and wanted[0])
                self.same(first_wrong(history, row), wanted)
                self.same(is_order(history, list(row)), wanted is None)
                self.assertEqual(is_order_by(history, row), wanted is None)
        self.assertEqual(seen, {None, "missing", "unended", "time", "answer"})

    def test_no_row(self):
        """[201]: what is no list or tuple of unlike positions."""
        records = (PUT, EARLY, LATE)
        rows = [(0, 1, 2, 2), (1, 1, 0), (0, 1, 3), (-1, 0, 1, 2), (0, 1, True), (True, 0, 2), {0: 1}, {0, 1, 2}, "012",
                None, 5, ((0,), 1, 2), ([0], 1), (None,), (1.0, 0, 2), range(3)]
        for row in rows:
            self.same(first_wrong(records, row), ("row",))
            self.same(is_order(records, row), False)
        for value in NO_NUMBERS:
            self.same(first_wrong(records, (1, 0, value)), ("row",))
        self.same(first_wrong(records, [1, 0, 2]), None)

    def test_first_reason_counts(self):
        """[201]: a row that is wrong in several ways."""
        unended = (2, ("get", 0), 7, None, None)
        look = (2, ("look", 1), 8, None, None)
        records = (PUT, EARLY, LATE, unended, look)
        self.same(first_wrong(records, (4, 3, 2, 0)), ("missing", 1))
        self.same(first_wrong(records, (4, 3, 2, 0, 1)), ("unended", 3))
        self.same(first_wrong(records, (4, 2, 0, 1)), ("unended", 4))
        self.same(first_wrong(records, (2, 0, 1)), ("time", 0))
        self.same(first_wrong(records, (0, 1, 2)), ("answer", 1))
        self.same(first_wrong(records, ()), ("missing", 0))

    def test_unended_puts(self):
        """[9]: an unended put may stand in a row or be left out, but not behind what began after it could not be."""
        put = (0, ("put", 0, 7), 3, None, None)
        records = (EARLY, put, (1, ("get", 0), 4, 6, 7))
        self.same(first_wrong(records, (0, 1, 2)), None)
        self.same(first_wrong(records, (0, 2)), ("answer", 1))
        self.same(first_wrong(records, (1, 0, 2)), ("time", 0))
        self.same(first_wrong((put,), ()), None)
        self.same(first_wrong((put,), (0,)), None)

    def test_kinds_of_rows(self):
        """[200]: lists and tuples make no difference; a put may have any answer but None."""
        records = [[0, ["put", 0, 5], 0, 3, "done"], [1, ["look", 2], 4, 6, [5, 0]]]
        self.same(first_wrong(records, (0, 1)), None)
        self.same(first_wrong(tuple(tuple(row) for row in records), [1, 0]), ("time", 0))
        self.same(first_wrong((), ()), None)

    def test_records_come_first(self):
        """BadRecord as check_history raises it, before the row is looked at."""
        for wrong in (None, "ab", {}, 3):
            self.raises(BadRecord(-1), first_wrong, wrong, None)
            self.raises(BadRecord(-1), is_order, wrong, None)
        for record in ((0, ("get", 0), 3, 2, 0), (0, ("get", 0), 3, 3, 0), (0, ("get", 0), 0, 9, 0), (0, ("add", 0), 7, 8, 0),
                       (0, ("get", 0), 7, 8, None), (0, ("look", 2), 7, 8, (1,)), (True, ("get", 0), 7, 8, 0)):
            self.raises(BadRecord(1), first_wrong, (PUT, record), 5)
            self.raises(BadRecord(1), is_order, [PUT, record, None], 5)

    def test_facts(self):
        """[202]: what may be taken out of an order, and which records may be stretched."""
        pick = random.Random(4)
        many = 0
        for history in some_histories(2, 300, MIXED, 5):
            orders = all_orders(history)
            if not orders:
                continue
            row = pick.choice(orders)
            for at in row:
                deed = history[at][1]
                behind = [history[x][1] for x in row[row.index(at) + 1:]]
                needed = False
                if deed[0] == "put":
                    for other in behind:
                        if other[0] == "put" and other[1] == deed[1]:
                            break
                        needed = needed or other == ("get", deed[1]) or other[0] == "look" and deed[1] < other[1]
                if not needed:
                    many += 1
                    left = [x - (x > at) for x in row if x != at]
                    self.assertTrue(is_order(history[:at] + history[at + 1:], left))
            at = pick.randrange(len(history)) if history else None
            if at is not None:
                house, deed, begun, ended, answer = history[at]
                later = None if ended is None else ended + 50
                longer = history[:at] + [(house, deed, begun, later, answer)] + history[at + 1:]
                self.assertTrue(is_order(longer, row))
                moved = [(h, d, b + 1, None if e is None else e + 1, a) for h, d, b, e, a in history]
                earlier = moved[:at] + [(house, deed, 0) + moved[at][3:]] + moved[at + 1:]
                self.assertTrue(is_order(earlier, row))
        self.assertGreater(many, 100)

    def test_nothing_is_changed(self):
        records = [[0, ["put", 0, 5], 0, 3, 5], [1, ["get", 0], 4, 6, 5]]
        row = [0, 1]
        first_wrong(records, row)
        self.same((records, row), ([[0, ["put", 0, 5], 0, 3, 5], [1, ["get", 0], 4, 6, 5]], [0, 1]))


if __name__ == "__main__":
    unittest.main()
