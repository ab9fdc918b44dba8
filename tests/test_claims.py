"""Claims: points [5], [60] to [62] and [64] to [66], and silentlinks/claims.py."""

import itertools
import random
import unittest

from silentlinks.books import Book
from silentlinks.claims import Claim, all_places
from silentlinks.errors import BadBook, BadHouse, BadPattern, BadPlaces, Foes, NotAPlace, OtherBook
from silentlinks.friends import are_friends
from silentlinks.greatest import extended, greatest_claims, spread
from silentlinks.patterns import Pattern
from support import (
    NO_NUMBERS, LinksCase, friends_by, harder_pattern, keepable_by, places_of, reaches_of, some_books,
)

CALM = Pattern()
BOOK = Book(3, [CALM, Pattern([1]), Pattern((), [(0, 1), (0, 2), (1, 0), (2, 0)])])


def some_claims(seed, many=60, each=6):
    pick = random.Random(seed)
    for book in some_books(seed, many):
        places = places_of(book)
        nets = reaches_of(book)
        for _ in range(each):
            yield nets, Claim(book, pick.sample(places, pick.randint(0, min(len(places), 6))))
        # Places picked one by one, so that many claims are keepable.
        chosen = []
        for place in pick.sample(places, len(places)):
            if keepable_by(nets, chosen + [place]) and pick.random() < 0.8:
                chosen.append(place)
        yield nets, Claim(book, chosen)


class Making(LinksCase):
    def test_attributes(self):
        claim = Claim(BOOK, [[2, 1], (0, 2), [0, 0]])
        self.assertTrue(claim.book == BOOK)
        self.same(claim.places, ((0, 0), (0, 2), (2, 1)))
        self.same(Claim(BOOK, ()).places, ())

    def test_handed_in(self):
        """[1], [60]"""
        rows = [[2, 1], [0, 2]]
        claim = Claim(BOOK, rows)
        rows[0][1] = 0
        rows.append([0, 0])
        self.same(claim.places, ((0, 2), (2, 1)))

    def test_wrong(self):
        for book in (None, 3, BOOK.patterns):
            self.raises(BadBook(), Claim, book, None)
        for places in (None, "00", {(0, 0)}, {(0, 0): 1}, Claim(BOOK, []), iter([(0, 0)])):
            self.raises(BadPlaces(-1), Claim, BOOK, places)
        for value in ((3, 0), (-1, 0), (0, 3), (0, -1), (0,), (0, 0, 0), (), "00", 0, None, {0, 1}, ((0,), 0)):
            self.raises(BadPlaces(1), Claim, BOOK, [(1, 1), value])
        for value in NO_NUMBERS:
            self.raises(BadPlaces(0), Claim, BOOK, [(value, 0)])
            self.raises(BadPlaces(0), Claim, BOOK, [(0, value)])
        self.raises(BadPlaces(2), Claim, BOOK, [(0, 1), [0, 0], [0, 1]])
        self.raises(BadPlaces(2), Claim, BOOK, [(1, 1), (0, 0), (9, 9)])
        self.raises(NotAPlace(1), Claim, BOOK, [(0, 1), (1, 1)])
        self.raises(BadPlaces(1), Claim, BOOK, [(1, 1), (1, 1)])

    def test_all_places(self):
        for book in some_books(70, 50) + [Book(2, [Pattern([0, 1])])]:
            self.same(all_places(book), tuple(places_of(book)))

    def test_of(self):
        self.same(Claim.of(BOOK, 1).places, ((0, 1), (2, 1)))
        self.raises(BadBook(), Claim.of, None, 0)
        self.raises(BadBook(), Claim.of, None, 9)
        for house in (3, -1) + NO_NUMBERS:
            self.raises(BadHouse(house), Claim.of, BOOK, house)


class Working(LinksCase):
    claim = Claim(BOOK, [(0, 2), (2, 1), (0, 0)])

    def test_len_and_order(self):
        self.same([len(self.claim), list(self.claim)], [3, [(0, 0), (0, 2), (2, 1)]])
        self.assertEqual(len(Claim(BOOK, [])), 0)

    def test_in(self):
        told = [(0, 0) in self.claim, (0, 2) in self.claim, (0, 1) in self.claim, (7, 7) in self.claim]
        self.assertEqual(told, [True, True, False, False])
        wrong = [[0, 0], (0,), (0, 0, 0), None, 0, "00", {0}, (False, 0), (0, False), (0.0, 0), (0, 2.0), (0, None)]
        for pair in wrong:
            self.assertIs(pair in self.claim, False)

    def test_equality(self):
        self.assertIs(self.claim == Claim(Book(3, list(BOOK)), [[2, 1], [0, 0], [0, 2]]), True)
        self.assertIs(self.claim == Claim(BOOK, [(0, 2), (2, 1)]), False)
        self.assertIs(Claim(BOOK, []) == Claim(BOOK - 0, []), False)
        for other in (None, self.claim.places, list(self.claim)):
            self.assertIs(self.claim == other, False)

    def test_add_and_subtract(self):
        places = self.claim.places
        both = self.claim + Claim(BOOK, [(0, 0), (1, 2)])
        self.same(both.places, ((0, 0), (0, 2), (1, 2), (2, 1)))
        self.assertTrue(both == self.claim + [(1, 2), [0, 0]] == self.claim + ((1, 2),))
        self.same((self.claim - [(0, 2), (1, 2)]).places, ((0, 0), (2, 1)))
        self.same((self.claim - self.claim).places, ())
        self.same((self.claim - Claim(BOOK, [(0, 0)])).places, ((0, 2), (2, 1)))
        self.assertTrue(self.claim + [] == self.claim - [] == self.claim)
        self.same(self.claim.places, places)

    def test_new_claims(self):
        """[60]: each claim returned is a new one."""
        claim = Claim(BOOK, [(0, 0), (0, 1), (0, 2)])
        for other in (claim + [], claim - [], claim + claim, claim.whole(), spread(claim), extended(claim)):
            self.assertIsNot(other, claim)
        self.same(claim.places, ((0, 0), (0, 1), (0, 2)))

    def test_equal_book(self):
        other = Claim(Book(3, list(BOOK)), [(0, 1)])
        self.same((self.claim + other).places, ((0, 0), (0, 1), (0, 2), (2, 1)))

    def test_wrong_operands(self):
        other = Claim(BOOK - 0, [])
        self.raises(OtherBook(), lambda: self.claim + other)
        self.raises(OtherBook(), lambda: self.claim - other)
        wrong = [
            (BadPlaces(-1), None), (BadPlaces(-1), {(0, 0)}), (BadPlaces(1), [(0, 0), (0, 0)]),
            (BadPlaces(0), [(True, 0), (1, 1)]), (NotAPlace(0), [(1, 1)]), (BadPlaces(1), [(1, 1), (0, 3)]),
        ]
        for error, rows in wrong:
            self.raises(error, lambda: self.claim + rows)
            self.raises(error, lambda: self.claim - rows)

    def test_houses_at(self):
        self.same([self.claim.houses_at(k) for k in range(3)], [(0, 2), (), (1,)])
        for number in (3, -1) + NO_NUMBERS:
            self.raises(BadPattern(number), self.claim.houses_at, number)


class Keepable(LinksCase):
    def test_words(self):
        """[5], [62]"""
        seen = set()
        for nets, claim in some_claims(71):
            keepable = keepable_by(nets, claim.places)
            full = keepable and {i for i, b in claim} == set(range(len(claim.book)))
            seen.add((keepable, full))
            self.assertIs(claim.keepable, keepable)
            self.assertIs(claim.full, full)
        self.assertEqual(seen, {(True, True), (True, False), (False, False)})

    def test_every_part_meets_every_past(self):
        """[62]"""
        for nets, claim in some_claims(72):
            sides = [set(nets[i].part(b)) for i, b in claim]
            pasts = [set(nets[i].past(b)) for i, b in claim]
            self.assertIs(claim.keepable, all(one & other for one in sides for other in pasts))

    def test_two_by_two(self):
        """[62]"""
        for _, claim in some_claims(73, 30):
            pairs = [Claim(claim.book, pair).keepable for pair in itertools.combinations(claim.places, 2)]
            self.assertIs(claim.keepable, all(pairs))
            if claim.keepable:
                for place in claim:
                    self.assertIs((claim - [place]).keepable, True)

    def test_no_places(self):
        for book in (BOOK, Book(2, [Pattern([0, 1])])):
            empty = Claim(book, ())
            self.same([empty.keepable, empty.full, empty.foes(), empty.whole().places], [True, False, None, ()])
            self.assertIs(empty.kept(), empty)

    def test_foes(self):
        for nets, claim in some_claims(74):
            rows = [(p, o) for p, o in itertools.combinations(claim.places, 2) if not friends_by(nets, p, o)]
            self.same(claim.foes(), rows[0] if rows else None)
            if rows:
                self.raises(Foes(*rows[0]), claim.kept)
            else:
                self.assertIs(claim.kept(), claim)

    def test_whole(self):
        """[62]"""
        for nets, claim in some_claims(75):
            wanted = sorted({(i, x) for i, b in claim for x in nets[i].part(b)})
            self.same(claim.whole().places, tuple(wanted))
            self.assertTrue(claim.whole().book == claim.book)
            self.assertIs(claim.whole().keepable, claim.keepable)

    def test_is_greatest(self):
        """[5]"""
        seen = set()
        for nets, claim in some_claims(76):
            others = [p for p in places_of(claim.book) if p not in claim]
            greatest = keepable_by(nets, claim.places) and not any(
                all(friends_by(nets, p, o) for p in claim) for o in others)
            seen.add(greatest)
            self.assertIs(claim.is_greatest(), greatest)
        self.assertEqual(len(seen), 2)
        self.assertIs(Claim(Book(2, [Pattern([0, 1])]), []).is_greatest(), True)

    def test_one_house_never_fallen(self):
        """[64]"""
        for book in some_books(77, 200):
            for house in range(book.houses):
                if not any(house in pattern.fallen for pattern in book):
                    self.assertIs(Claim.of(book, house).full, True)


class Harsher(LinksCase):
    def test_sight(self):
        """[65]"""
        pick = random.Random(65)
        for book in some_books(78, 40, 4, 2):
            rows = list(book) + [harder_pattern(pick, pattern, book.houses) for pattern in book]
            more = Book(book.houses, rows)
            nets = reaches_of(more)
            many = len(book)
            for (i2, k), (j2, h) in itertools.product(places_of(more), repeat=2):
                if i2 >= many and j2 >= many and are_friends(more, (i2, k), (j2, h)):
                    self.assertTrue(friends_by(nets, (i2 - many, k), (j2 - many, h)))

    def test_spread(self):
        """[65]"""
        for nets, claim in some_claims(79, 120):
            book = claim.book
            wide = spread(claim)
            wanted = set(claim.places)
            for j, b in claim:
                wanted |= {(i, b) for i, pattern in enumerate(book) if book[j].harsher(pattern)}
            self.same(wide.places, tuple(sorted(wanted)))
            self.assertIs(wide.keepable, claim.keepable)
            if claim.keepable and set(book.harshest()) <= {i for i, b in claim}:
                self.assertIs(wide.full, True)

    def test_more_failing(self):
        """[66]"""
        pick = random.Random(66)
        for book in some_books(80, 60, 4, 4):
            number = pick.randrange(len(book))
            new = book.replaced(number, harder_pattern(pick, book[number], book.houses))
            self.assertLessEqual(set(all_places(new)), set(all_places(book)))
            for p, o in itertools.combinations(all_places(new), 2):
                if are_friends(new, p, o):
                    self.assertTrue(are_friends(book, p, o))
            old = greatest_claims(book)
            for claim in greatest_claims(new):
                whole = Claim(book, claim.places).whole()
                self.assertTrue(any(set(whole) <= set(other) for other in old))


if __name__ == "__main__":
    unittest.main()
