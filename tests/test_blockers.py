"""Blockers: points [6], [80] to [82], [84] and [86], and silentlinks/blockers.py."""

import random
import unittest

from silentlinks.blockers import blockers, is_blocker, is_thin, lean, mutual, quick_lots, thin
from silentlinks.books import Book
from silentlinks.claims import Claim
from silentlinks.errors import BadHouses, BadLots, BadSet, Foes, NotCrossing
from silentlinks.lots import Lots, lots_of
from silentlinks.nets import Net
from silentlinks.patterns import Pattern
from silentlinks.served import echo_time, push_time
from support import (
    NO_NUMBERS, LinksCase, crosses, crossing_lots, in_order, places_of, reaches_of, some_books, some_lots,
    some_patterns, some_rows, subsets,
)


def blocks(chosen, rows):
    return all(set(chosen) & set(row) for row in rows)


def lean_by(rows):
    told = [set(row) for row in rows]
    return in_order(row for row in told if not any(other < row for other in told))


def row_cases():
    pick = random.Random(82)
    for _ in range(200):
        houses = pick.randint(1, 6)
        yield houses, some_rows(pick, houses, 5)
    for houses in range(1, 8):
        yield houses, [list(range(houses))]
        yield houses, [[h] for h in range(houses)]


class Rows(LinksCase):
    def test_lean(self):
        for houses, rows in row_cases():
            self.same(lean(houses, rows), lean_by(rows))

    def test_blockers(self):
        """[6], [82]: exactly the sets that meet each one, while no smaller subset does."""
        for houses, rows in row_cases():
            wanted = []
            for chosen in subsets(range(houses)):
                if blocks(chosen, rows) and not any(blocks(less, rows) for less in subsets(chosen) if less != chosen):
                    wanted.append(chosen)
            self.same(blockers(houses, rows), in_order(wanted))

    def test_twice(self):
        """[82]"""
        for houses, rows in row_cases():
            self.same(blockers(houses, blockers(houses, rows)), lean(houses, rows))

    def test_is_blocker(self):
        for houses, rows in row_cases():
            if houses <= 4:
                for chosen in subsets(range(houses)):
                    self.assertIs(is_blocker(houses, rows, list(chosen)[::-1]), blocks(chosen, rows))

    def test_wrong(self):
        """[80]"""
        calls = (lean, blockers, lambda houses, rows: is_blocker(houses, rows, None))
        for call in calls:
            for houses in (0, 8) + NO_NUMBERS:
                self.raises(BadHouses(), call, houses, None)
            for rows in (None, [], (), {(0,)}, "0"):
                self.assertIsNone(self.raises(BadLots("rows", -1), call, 3, rows).__cause__)
            caught = self.raises(BadLots("rows", 1), call, 3, [[0], [1, 3], []])
            self.assertEqual([type(caught.__cause__), vars(caught.__cause__)], [BadSet, {"at": 1}])
            caught = self.raises(BadLots("rows", 2), call, 3, [[0], [1], [], [9]])
            self.assertIsNone(caught.__cause__)
            for value in NO_NUMBERS:
                self.raises(BadLots("rows", 0), call, 3, [[value]])

    def test_wrong_chosen(self):
        rows = [[0]]
        self.raises(BadSet(-1), is_blocker, 3, rows, None)
        self.raises(BadSet(1), is_blocker, 3, rows, [0, 3])
        self.raises(BadSet(1), is_blocker, 3, rows, [0, 0])
        for value in NO_NUMBERS:
            self.raises(BadSet(0), is_blocker, 3, rows, [value])

    def test_rows_stay(self):
        """[1]"""
        rows, chosen = [[1, 0], [0]], [2, 1]
        lean(3, rows), blockers(3, rows), is_blocker(3, rows, chosen)
        self.assertEqual([rows, chosen], [[[1, 0], [0]], [2, 1]])


class Crossing(LinksCase):
    def test_blockers_cross(self):
        """[81]"""
        for lots in list(some_lots(81, 200)) + list(crossing_lots(86, 100)):
            asked = all(is_blocker(lots.houses, lots.heard, lot) for lot in lots.asked)
            heard = all(is_blocker(lots.houses, lots.asked, lot) for lot in lots.heard)
            self.assertEqual([asked, heard], [lots.crossing] * 2)

    def test_majority_blockers(self):
        """[89]"""
        for houses in range(1, 8):
            lots = Lots.majority(houses)
            told = blockers(houses, lots.asked)
            if houses % 2 == 1:
                self.assertTrue(mutual(lots) == lots)
            else:
                self.same(told, in_order(row for row in subsets(range(houses)) if len(row) == houses // 2))


class Mutual(LinksCase):
    def test_words(self):
        for lots in crossing_lots(84, 150):
            got = mutual(lots)
            asked = blockers(lots.houses, lots.heard)
            self.same([got.houses, got.asked, got.heard], [lots.houses, asked, blockers(lots.houses, asked)])

    def test_facts(self):
        """[84]"""
        pick = random.Random(84)
        for lots in crossing_lots(87, 120):
            got = mutual(lots)
            self.assertTrue(got.crossing and mutual(got) == got)
            for pattern in some_patterns(pick.random(), 3, lots.houses):
                net = Net(lots.houses, pattern)
                for b in net.alive:
                    self.assertTrue(got.serves(net, b) or not lots.serves(net, b))
                    for time in (echo_time, push_time):
                        old, new = time(lots, net, b), time(got, net, b)
                        self.assertTrue(old is None or new is not None and new <= old)

    def test_not_crossing(self):
        lots = Lots(2, [[0]], [[1]])
        for call in (mutual, thin):
            self.raises(NotCrossing(), call, lots)
        self.assertIs(is_thin(lots), False)


def is_thin_by(lots):
    if not crosses(lots):
        return False
    for rows, others in ((lots.asked, lots.heard), (lots.heard, lots.asked)):
        for lot in rows:
            for house in lot:
                if len(lot) >= 2 and blocks(set(lot) - {house}, others):
                    return False
    return True


def thin_by(lots):
    """The words of the interface: all lots still cross without the house that is taken out."""
    asked = [set(lot) for lot in lots.asked]
    heard = [set(lot) for lot in lots.heard]
    for rows, others in ((asked, heard), (heard, asked)):
        for lot in rows:
            for house in sorted(lot):
                if all((lot - {house}) & other for other in others):
                    lot.discard(house)
    return Lots(lots.houses, [sorted(lot) for lot in asked], [sorted(lot) for lot in heard])


class Thin(LinksCase):
    def test_words(self):
        for lots in crossing_lots(88, 200, 6):
            self.assertTrue(thin(lots) == thin_by(lots))

    def test_is_thin(self):
        seen = set()
        for lots in list(crossing_lots(89, 200)) + list(some_lots(90, 100)):
            seen.add(is_thin_by(lots))
            self.assertIs(is_thin(lots), is_thin_by(lots))
        self.assertEqual(len(seen), 2)
        self.assertIs(is_thin(Lots(1, [[0]], [[0]])), True)

    def test_facts(self):
        """[86]"""
        pick = random.Random(86)
        for lots in crossing_lots(91, 150):
            got = thin(lots)
            self.assertTrue(got.crossing and is_thin(got))
            for few, many in ((got.asked, lots.asked), (got.heard, lots.heard)):
                for lot in few:
                    self.assertTrue(any(set(lot) <= set(other) for other in many))
            for pattern in some_patterns(pick.random(), 3, lots.houses):
                net = Net(lots.houses, pattern)
                for b in net.alive:
                    self.assertTrue(got.serves(net, b) or not lots.serves(net, b))


class Quick(LinksCase):
    def test_words(self):
        pick = random.Random(85)
        for book in some_books(92, 200):
            nets, places = reaches_of(book), places_of(book)
            claim = Claim(book, pick.sample(places, min(len(places), pick.randint(0, 3))))
            if not claim.keepable:
                self.raises(Foes(*claim.foes()), quick_lots, claim)
            elif len(claim) == 0:
                self.raises(BadLots("asked", -1), quick_lots, claim)
            else:
                got = quick_lots(claim)
                heard = lean_by([nets[i].past(b) for i, b in claim])
                self.same([got.houses, got.heard, got.asked], [book.houses, heard, blockers(book.houses, heard)])
                self.assertTrue(lots_of(claim).crossing)

    def test_errors_in_order(self):
        book = Book(2, [Pattern((), [(0, 1), (1, 0)])])
        self.raises(Foes((0, 0), (0, 1)), quick_lots, Claim(book, [(0, 1), (0, 0)]))
        self.raises(BadLots("asked", -1), quick_lots, Claim(book, []))


if __name__ == "__main__":
    unittest.main()
