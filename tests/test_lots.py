"""Lots: points [6], [80], [81] and [89], and silentlinks/lots.py."""

import itertools
import random
import unittest

from silentlinks.books import Book
from silentlinks.claims import Claim
from silentlinks.errors import BadHouse, BadHouses, BadLots, BadSet, Foes, IsFallen, OtherHouses
from silentlinks.lots import Lots, lot_row, lots_of
from silentlinks.nets import Net
from silentlinks.parts import part
from silentlinks.patterns import Pattern
from support import (
    NO_NUMBERS, LinksCase, Reach, crosses, crossing_lots, in_order, places_of, reaches_of, sampled_patterns, some_books,
    some_lots, some_rows,
)


class Making(LinksCase):
    def test_rows(self):
        """[6]: in order, each set once."""
        pick = random.Random(6)
        for _ in range(200):
            houses = pick.randint(1, 5)
            asked, heard = some_rows(pick, houses), some_rows(pick, houses)
            lots = Lots(houses, tuple(asked), [tuple(row) for row in heard])
            self.same([lots.houses, lots.asked, lots.heard], [houses, in_order(asked), in_order(heard)])
        self.same(Lots(3, [[2], [0, 1], (1, 0), [0]], [(2, 1, 0)]).asked, ((0,), (2,), (0, 1)))

    def test_lot_row(self):
        self.same(lot_row(3, [[2, 1], (), [0], (1, 2)]), ((), (0,), (1, 2)))
        self.same([lot_row(3, []), lot_row(3, ([0],))], [(), ((0,),)])
        self.raises(BadSet(-1), lot_row, 3, [[0], None, [3]])
        self.raises(BadSet(1), lot_row, 3, [[0], [1, 3], None])
        self.raises(BadSet(1), lot_row, 3, [[0, 0]])
        self.raises(BadSet(0), lot_row, 3, [[True]])

    def test_handed_in(self):
        """[1]"""
        asked, heard = [[1, 0]], [[0], [1]]
        lots = Lots(2, asked, heard)
        asked[0].pop()
        heard.clear()
        self.same([lots.asked, lots.heard], [((0, 1),), ((0,), (1,))])

    def wrong(self, wanted, cause, *told):
        caught = self.raises(wanted, Lots, *told)
        self.assertEqual(repr(caught.__cause__), repr(cause))
        if cause is not None:
            self.assertEqual(vars(caught.__cause__), vars(cause))

    def test_wrong(self):
        """[80]"""
        good = [[0]]
        for houses in (0, 8) + NO_NUMBERS:
            self.raises(BadHouses(), Lots, houses, None, None)
        for rows in (None, [], (), {(0,)}, {(0,): 1}, "0", iter([[0]])):
            self.wrong(BadLots("asked", -1), None, 3, rows, None)
            self.wrong(BadLots("heard", -1), None, 3, good, rows)
        wrong = [
            (None, BadSet(-1)), (0, BadSet(-1)), ({0}, BadSet(-1)), ([3], BadSet(0)), ([0, -1], BadSet(1)),
            ([0, 1, 1], BadSet(2)), ([True], BadSet(0)), ([1.0], BadSet(0)), ([], None), ((), None),
        ]
        for member, cause in wrong:
            self.wrong(BadLots("asked", 1), cause, 3, [[0], member, []], [])
            self.wrong(BadLots("heard", 2), cause, 3, good, [[0], [1], member, None])

    def test_equality(self):
        lots = Lots(3, [[0], [1, 2]], [[0, 1]])
        self.assertIs(lots == Lots(3, ((2, 1), [0], [1, 2]), [(1, 0)]), True)
        others = [Lots(4, [[0], [1, 2]], [[0, 1]]), Lots(3, [[0]], [[0, 1]]), Lots(3, [[0], [1, 2]], [[0]])]
        for other in others + [~lots, None, lots.asked]:
            self.assertIs(lots == other, False)


class Crossing(LinksCase):
    def all_lots(self):
        yield from some_lots(81, 300)
        yield from crossing_lots(82, 100)

    def test_words(self):
        """[6], [81]"""
        seen = set()
        for lots in self.all_lots():
            self.assertIs(lots.crossing, crosses(lots))
            seen.add(lots.crossing)
        self.assertEqual(len(seen), 2)

    def test_invert(self):
        """[81]"""
        for lots in self.all_lots():
            other = ~lots
            self.same([other.houses, other.asked, other.heard], [lots.houses, lots.heard, lots.asked])
            self.assertIs(other.crossing, lots.crossing)
            self.assertTrue(~~lots == lots)

    def test_missing(self):
        for lots in self.all_lots():
            pairs = [(a, h) for a in lots.asked for h in lots.heard if not set(a) & set(h)]
            self.same(lots.missing(), pairs[0] if pairs else None)


class Serving(LinksCase):
    def test_words(self):
        """[6]"""
        pick = random.Random(83)
        seen = set()
        for houses, pattern in sampled_patterns():
            net, plain = Net(houses, pattern), Reach(houses, pattern)
            for _ in range(3):
                lots = Lots(houses, some_rows(pick, houses, 2), some_rows(pick, houses, 2))
                for b in net.alive:
                    asked = any(set(lot) <= set(plain.part(b)) for lot in lots.asked)
                    heard = any(set(lot) <= set(plain.past(b)) for lot in lots.heard)
                    seen.add((asked, heard))
                    self.assertIs(lots.serves(net, b), asked and heard)
        self.assertEqual(len(seen), 4)

    def test_wrong(self):
        """[80]"""
        lots, net = Lots(2, [[0]], [[0]]), Net(2, Pattern([1]))
        self.raises(OtherHouses(), lots.serves, Net(3, Pattern([1])), 9)
        self.raises(IsFallen(1), lots.serves, net, 1)
        for house in (-1, 2) + NO_NUMBERS:
            self.raises(BadHouse(house), lots.serves, net, house)


class Majority(LinksCase):
    def test_words(self):
        for houses in range(1, 8):
            lots = Lots.majority(houses)
            rows = tuple(itertools.combinations(range(houses), houses // 2 + 1))
            self.same([lots.houses, lots.asked, lots.heard, lots.crossing], [houses, rows, rows, True])
        for houses in (0, 8) + NO_NUMBERS:
            self.raises(BadHouses(), Lots.majority, houses)

    def test_serves(self):
        """[89]"""
        for houses, pattern in sampled_patterns():
            net = Net(houses, pattern)
            for b in net.alive:
                self.assertIs(Lots.majority(houses).serves(net, b), 2 * len(part(net, b)) > houses)


class OfClaims(LinksCase):
    def test_words(self):
        pick = random.Random(84)
        seen = set()
        for book in some_books(85, 150):
            nets, places = reaches_of(book), places_of(book)
            claim = Claim(book, pick.sample(places, min(len(places), pick.randint(0, 3))))
            seen.add((claim.keepable, len(claim) > 0))
            if not claim.keepable:
                self.raises(Foes(*claim.foes()), lots_of, claim)
            elif len(claim) == 0:
                self.raises(BadLots("asked", -1), lots_of, claim)
            else:
                lots = lots_of(claim)
                self.assertEqual(lots.houses, book.houses)
                self.same(lots.asked, in_order(nets[i].part(b) for i, b in claim))
                self.same(lots.heard, in_order(nets[i].past(b) for i, b in claim))
        self.assertEqual(len(seen), 3)
        self.raises(BadLots("asked", -1), lots_of, Claim(Book(1, [Pattern([0])]), []))


if __name__ == "__main__":
    unittest.main()
