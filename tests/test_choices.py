"""Full claims: points [100] and [104], and silentlinks/choices.py."""

import itertools
import random
import types
import unittest

from silentlinks.books import Book
from silentlinks.choices import count_full, full_choices, full_claim, goes_together
from silentlinks.claims import Claim
from silentlinks.errors import Foes, OtherBook, TooMany
from silentlinks.friends import friend_table, part_places
from silentlinks.greatest import greatest_claims
from silentlinks.patterns import Pattern
from support import (
    LinksCase, descent_book, harder_pattern, keepable_by, places_of, reaches_of, some_books, split_book,
)

ALL_FALLEN = Book(2, [Pattern(), Pattern([0, 1])])
ISLANDS = Pattern((), Pattern.cut(range(7), range(7)))


def whole_full_by(book):
    """The places of all whole full claims in the order of [100], by all choices of a part of each pattern."""
    nets = reaches_of(book)
    rows = [sorted({net.part(b) for b in net.alive}) for net in nets]
    for parts in itertools.product(*rows):
        if keepable_by(nets, [(i, part[0]) for i, part in enumerate(parts)]):
            yield tuple((i, x) for i, part in enumerate(parts) for x in part)


def books():
    return some_books(100, 150) + [ALL_FALLEN, Book.alone(3), Book(3, [Pattern((), [(0, 1), (1, 0)])] * 4)]


class Full(LinksCase):
    def test_all_in_order(self):
        """[100]"""
        seen = set()
        for book in books():
            wanted = list(whole_full_by(book))
            got = list(full_choices(book))
            seen.add(min(len(wanted), 2))
            self.same([claim.places for claim in got], wanted)
            self.assertTrue(all(claim.book == book for claim in got))
            self.assertEqual(count_full(book), len(wanted))
            first = full_claim(book)
            self.same(None if first is None else first.places, wanted[0] if wanted else None)
        self.assertEqual(seen, {0, 1, 2})

    def test_are_greatest(self):
        """[100]: exactly those greatest claims that are full."""
        for book in books():
            wanted = sorted(claim.places for claim in greatest_claims(book) if claim.full)
            self.same(sorted(claim.places for claim in full_choices(book)), wanted)

    def test_full_claims_have_one_part_each(self):
        """[100]"""
        for book in some_books(101, 60, 4, 3):
            pick = random.Random(len(book))
            places = places_of(book)
            nets = reaches_of(book)
            for _ in range(10):
                claim = Claim(book, pick.sample(places, min(len(places), 4)))
                if claim.full:
                    for i in range(len(book)):
                        houses = claim.houses_at(i)
                        self.assertLessEqual(set(houses), set(nets[i].part(houses[0])))

    def test_generator(self):
        """full_choices gives one claim after the other, without a search for all of them."""
        rows = full_choices(Book(7, [ISLANDS]))
        self.assertIsInstance(rows, types.GeneratorType)
        self.same(next(rows).places, ((0, 0),))
        self.same(next(rows).places, ((0, 1),))
        self.assertEqual(len(next(full_choices(descent_book(Limit.MORE)))), len(full_claim(descent_book(Limit.MORE))))

    def test_all_fallen(self):
        for book in (ALL_FALLEN, Book(1, [Pattern([0])]), Book(7, [Pattern([6, 5, 4, 3, 2, 1, 0])])):
            self.same([full_claim(book), list(full_choices(book)), count_full(book)], [None, [], 0])

    def test_one_house(self):
        book = Book(1, [Pattern()] * 12)
        self.same([full_claim(book).places, count_full(book)], [tuple((i, 0) for i in range(12)), 1])


def many_full(book):
    """The number of whole full claims, pattern by pattern."""
    table, rows = friend_table(book), part_places(book)
    groups = [[at for at, row in enumerate(rows) if row[0] == i] for i in range(len(book))]

    def grow(number, near):
        if number == len(groups):
            return 1
        return sum(grow(number + 1, near & friends[at]) for at in groups[number] if at in near)
    friends = [{x for x in range(len(table)) if row[x]} for row in table]
    return grow(0, set(range(len(table))))


class Limit(LinksCase):
    JUST = [
        ((0, 1, 2, 5), (6,), (3, 4)), ((0, 2, 3, 5), (1, 4, 6)), ((1, 2, 3, 6), (0, 4, 5)), ((0, 2, 3, 4), (1, 5, 6)),
        ((1, 3, 5, 6), (0, 2, 4)), ((0, 1, 4, 6), (3, 5), (2,)), ((3, 4, 5), (0, 6), (1, 2)), ((2, 3, 5, 6), (0, 1, 4)),
        ((1, 2, 3, 4), (0, 5, 6)), ((2, 3, 4, 6), (0, 1, 5)), ((0, 1, 3, 6), (2, 4, 5)), ((1, 2, 4, 5), (0, 3, 6)),
    ]
    MORE = [
        ((0, 2, 5), (1, 3), (4, 6)), ((1, 2, 4, 6), (0, 3, 5)), ((0, 1, 4, 5), (2, 3), (6,)),
        ((2, 3, 4, 6), (1, 5), (0,)), ((3, 4, 5), (0, 1, 6), (2,)), ((0, 3, 5, 6), (1, 2, 4)),
        ((1, 2, 4, 5), (0, 3, 6)), ((1, 2, 3, 6), (0, 4, 5)), ((0, 1, 3, 4), (2, 5, 6)),
        ((2, 3, 5, 6), (0, 1, 4)), ((0, 1, 2, 4), (3, 5), (6,)), ((1, 2, 3, 4), (0, 5, 6)),
    ]

    def test_just_5000(self):
        book = descent_book(self.JUST)
        self.assertEqual([many_full(book), count_full(book)], [5000, 5000])

    def test_5001(self):
        book = descent_book(self.MORE)
        self.assertEqual(many_full(book), 5001)
        self.raises(TooMany("claims"), count_full, book)

    def test_splits(self):
        # Of 7 houses a part of 3 meets each part of another split but the one of its complement.
        book = split_book(list(itertools.combinations(range(7), 3))[:12])
        self.assertEqual(count_full(book), many_full(book))


class Together(LinksCase):
    def test_words(self):
        pick = random.Random(102)
        seen = set()
        for book in some_books(103, 150):
            nets, places = reaches_of(book), places_of(book)
            first = Claim(book, pick.sample(places, min(len(places), pick.randint(0, 2))))
            other = Claim(Book(book.houses, list(book)), pick.sample(places, min(len(places), pick.randint(0, 2))))
            for claim in (first, other):
                if not claim.keepable:
                    self.raises(Foes(*claim.foes()), goes_together, book, first, other)
                    break
            else:
                wanted = keepable_by(nets, first.places + other.places)
                seen.add(wanted)
                self.assertIs(goes_together(book, first, other), wanted)
        self.assertEqual(len(seen), 2)

    def test_wrong(self):
        book = Book(2, [Pattern((), [(0, 1), (1, 0)])])
        good, bad = Claim(book, [(0, 0)]), Claim(book, [(0, 0), (0, 1)])
        far = Claim(book + book, [(0, 0), (0, 1)])
        self.raises(OtherBook(), goes_together, book, far, bad)
        self.raises(Foes((0, 0), (0, 1)), goes_together, book, bad, far)
        self.raises(OtherBook(), goes_together, book, good, far)
        self.raises(Foes((0, 0), (0, 1)), goes_together, book, good, bad)
        self.same([goes_together(book, good, good), goes_together(book, good, Claim(book, [(0, 1)]))], [True, False])


class Harder(LinksCase):
    def test_harsher_book(self):
        """[104]: if the book with a harsher pattern has a full claim, the book has one."""
        pick = random.Random(104)
        for book in some_books(105, 150):
            number = pick.randrange(len(book))
            harder = book.replaced(number, harder_pattern(pick, book[number], book.houses))
            self.assertTrue(full_claim(harder) is None or full_claim(book) is not None)


if __name__ == "__main__":
    unittest.main()
