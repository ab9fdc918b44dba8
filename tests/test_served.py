"""Served places and times: points [6], [80], [83], [85], [87], [88] and [90], and silentlinks/served.py."""

import random
import unittest

from silentlinks.blockers import blockers, quick_lots
from silentlinks.books import Book
from silentlinks.claims import Claim
from silentlinks.errors import BadHouse, IsFallen, OtherHouses
from silentlinks.greatest import greatest_claims
from silentlinks.lots import Lots, lots_of
from silentlinks.nets import Net
from silentlinks.patterns import Pattern
from silentlinks.served import back_time, echo_time, first_asked, push_time, put_rounds, served, tour_rounds
from support import (
    NO_NUMBERS, LinksCase, Reach, crossing_lots, harder_pattern, keepable_by, places_of, reaches_of, some_books,
    some_lots, some_patterns, some_rows, subsets,
)


class Times:
    """The words of [6]."""

    def __init__(self, lots, plain, b):
        trips = [t for t in range(2 * lots.houses) if any(set(lot) <= set(plain.echo(b, t)) for lot in lots.asked)]
        self.echo = trips[0] if trips else None
        near = [max(plain.far[x, b] for x in lot) for lot in lots.heard if set(lot) <= set(plain.past(b))]
        self.push = min(near) if near else None
        self.first = self.back = None
        if self.echo is not None:
            self.first = [lot for lot in lots.asked if set(lot) <= set(plain.echo(b, self.echo))][0]
            self.back = 0 if self.echo == 0 else min(max(1, plain.far[x, b]) for x in self.first)


def cases(seed, many=150, most_houses=6):
    """Lots, crossing ones and others, with a house of a net and the plain reading of it."""
    pick = random.Random(seed)
    rows = list(some_lots(seed, many, most_houses)) + list(crossing_lots(seed + 1, many, most_houses))
    for lots in rows:
        for pattern in some_patterns(pick.random(), 2, lots.houses):
            for b in pattern.standing(lots.houses):
                yield lots, Net(lots.houses, pattern), Reach(lots.houses, pattern), b


class Words(LinksCase):
    def test_times(self):
        """[6]"""
        seen = set()
        for lots, net, plain, b in cases(6):
            told = Times(lots, plain, b)
            seen.add((told.echo, told.push, told.back))
            self.same(
                [echo_time(lots, net, b), push_time(lots, net, b), back_time(lots, net, b), first_asked(lots, net, b)],
                [told.echo, told.push, told.back, told.first])
        self.assertGreater(len(seen), 15)

    def test_rounds(self):
        for lots, net, plain, b in cases(7):
            told = Times(lots, plain, b)
            wanted = [None, None]
            if told.echo is not None and told.push is not None:
                wait = max(0, told.push - told.back)
                wanted = [1 + told.echo + wait, 1 + max(1, told.echo) + told.echo + wait]
            self.same([tour_rounds(lots, net, b), put_rounds(lots, net, b)], wanted)
            self.assertIs(wanted[0] is None, not lots.serves(net, b))

    def test_wrong(self):
        """[80]"""
        lots, net = Lots(2, [[0]], [[0]]), Net(2, Pattern([1]))
        for call in (echo_time, push_time, back_time, first_asked, tour_rounds, put_rounds):
            self.raises(OtherHouses(), call, lots, Net(3, Pattern([1])), 9)
            self.raises(IsFallen(1), call, lots, net, 1)
            for house in (-1, 2) + NO_NUMBERS:
                self.raises(BadHouse(house), call, lots, net, house)
        for book in (Book(3, [Pattern()]), Book(3, [Pattern([0, 1, 2])])):
            self.raises(OtherHouses(), served, lots, book)

    def test_served(self):
        for book in some_books(8, 80):
            pick = random.Random(len(book))
            nets = reaches_of(book)
            lots = Lots(book.houses, some_rows(pick, book.houses), some_rows(pick, book.houses))
            wanted = []
            for i, b in places_of(book):
                asked = any(set(lot) <= set(nets[i].part(b)) for lot in lots.asked)
                heard = any(set(lot) <= set(nets[i].past(b)) for lot in lots.heard)
                if asked and heard:
                    wanted.append((i, b))
            got = served(lots, book)
            self.same(got.places, tuple(wanted))
            self.assertTrue(got.book == book)
        self.same(served(Lots.majority(2), Book(2, [Pattern([0, 1])])).places, ())


class Facts(LinksCase):
    def test_served_is_keepable(self):
        """[83]"""
        pick = random.Random(83)
        for lots in crossing_lots(83, 120, 4):
            book = Book(lots.houses, some_patterns(pick.random(), 3, lots.houses))
            places = served(lots, book)
            self.assertTrue(keepable_by(reaches_of(book), places.places))
            most = Lots(lots.houses, blockers(lots.houses, lots.heard), lots.heard)
            self.assertTrue(most.crossing)
            self.assertLessEqual(set(places), set(served(most, book)))
            # No lots that cross the same heard lots serve any further place: take all of them.
            fits = [row for row in subsets(range(lots.houses)) if row and all(set(row) & set(o) for o in lots.heard)]
            self.same(served(Lots(lots.houses, fits, lots.heard), book).places, served(most, book).places)

    def test_smaller_lots(self):
        """[83]"""
        pick = random.Random(84)
        for lots in crossing_lots(85, 80, 4):
            book = Book(lots.houses, some_patterns(pick.random(), 3, lots.houses))
            fits = [row for row in subsets(range(lots.houses)) if row and all(set(row) & set(o) for o in lots.heard)]
            asked = [pick.choice([row for row in fits if set(row) <= set(lot)]) for lot in lots.asked]
            other = Lots(lots.houses, asked, lots.heard)
            self.assertLessEqual(set(served(lots, book)), set(served(other, book)))
            self.assertLessEqual(set(served(~lots, book)), set(served(~other, book)))

    def test_claims_and_lots(self):
        """[85]"""
        pick = random.Random(85)
        for book in some_books(86, 120):
            places = places_of(book)
            claim = Claim(book, pick.sample(places, min(len(places), pick.randint(1, 3))))
            if claim.keepable and len(claim) > 0:
                for lots in (lots_of(claim), quick_lots(claim)):
                    self.assertTrue(lots.crossing)
                    told = served(lots, book)
                    self.assertTrue(told.keepable and set(claim) <= set(told))
            for best in greatest_claims(book):
                if len(best) > 0:
                    self.assertTrue(served(lots_of(best), book) == served(quick_lots(best), book) == best)

    def test_only_keepable(self):
        """[85]: no crossing lots serve each place of a claim that is not keepable."""
        pick = random.Random(90)
        for lots in crossing_lots(91, 200, 3):
            book = Book(lots.houses, some_patterns(pick.random(), 2, lots.houses))
            for p in places_of(book):
                for o in places_of(book):
                    claim = Claim(book, sorted({p, o}))
                    self.assertTrue(claim.keepable or not set(claim) <= set(served(lots, book)))

    def test_quick_echo(self):
        """[87]"""
        for lots, net, plain, b in cases(87, 100):
            quick = Lots(lots.houses, blockers(lots.houses, lots.heard), lots.heard)
            wanted = [t for t in range(2 * lots.houses) if all(set(plain.echo(b, t)) & set(o) for o in lots.heard)]
            got = echo_time(quick, net, b)
            self.same(got, wanted[0] if wanted else None)
            if lots.crossing and echo_time(lots, net, b) is not None:
                self.assertLessEqual(got, echo_time(lots, net, b))

    def test_zeros(self):
        """[87]"""
        for lots, net, plain, b in cases(88):
            self.assertNotEqual(echo_time(lots, net, b), 1)
            self.assertIs(echo_time(lots, net, b) == 0, (b,) in lots.asked)
            self.assertIs(push_time(lots, net, b) == 0, (b,) in lots.heard)

    def test_harsher(self):
        """[88]"""
        pick = random.Random(88)
        for lots, net, plain, b in cases(89, 80):
            worse = Net(lots.houses, harder_pattern(pick, net.pattern, lots.houses))
            if b in worse.alive:
                for time in (echo_time, push_time):
                    old, new = time(lots, net, b), time(lots, worse, b)
                    self.assertTrue(new is None or old is not None and old <= new)

    def test_numbers(self):
        """[90]"""
        for lots, net, plain, b in cases(90):
            asked = any(set(lot) <= set(plain.part(b)) for lot in lots.asked)
            heard = any(set(lot) <= set(plain.past(b)) for lot in lots.heard)
            told = [call(lots, net, b) is not None for call in (echo_time, back_time, push_time)]
            self.assertEqual(told, [asked, asked, heard])


if __name__ == "__main__":
    unittest.main()
