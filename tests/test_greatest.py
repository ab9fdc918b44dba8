"""Greatest claims: points [63], [64] and [67], and silentlinks/greatest.py."""

import itertools
import random
import unittest

from silentlinks.books import Book
from silentlinks.claims import Claim
from silentlinks.errors import Foes, TooMany
from silentlinks.friends import friend_table, part_places
from silentlinks.greatest import count_keepable, extended, greatest_claims
from silentlinks.patterns import Pattern
from support import LinksCase, friends_by, places_of, reaches_of, some_books, split_book, subsets


def keepable_choices(book):
    """All sets of parts that are pairwise friends, as sets of positions in part_places."""
    table = friend_table(book)
    rows = [()]
    for at in range(len(table)):
        rows += [row + (at,) for row in rows if all(table[at][x] for x in row)]
    return rows


def stars(houses, many):
    """Book of so many patterns in which each house but the last is alone, and hears the last one."""
    last = houses - 1
    told = {(last, a) for a in range(last)}
    silent = [(a, b) for a in range(houses) for b in range(houses) if a != b and (a, b) not in told]
    return Book(houses, [Pattern((), silent)] * many)


def single_books(seed, many):
    """Books of single houses, with one house alive in each pattern or few links, and many foes."""
    pick = random.Random(seed)
    for _ in range(many):
        houses = pick.randint(2, 5)
        rows = []
        for _ in range(pick.randint(2, 6)):
            kept = {(a, b) for a in range(houses) for b in range(houses) if a != b and pick.random() < 0.35}
            links = [(a, b) for a in range(houses) for b in range(houses) if a != b and (a, b) not in kept]
            rows.append(Pattern((), links))
        yield Book(houses, rows)


class Greatest(LinksCase):
    def books(self):
        return some_books(81, 80) + list(single_books(82, 60)) + [Book.alone(4), stars(4, 3)]

    def test_all_of_them(self):
        """[63]: exactly the claims that are greatest, by all choices of parts."""
        for book in self.books():
            rows, choices = part_places(book), keepable_choices(book)
            told = {frozenset(row) for row in choices}
            wanted = []
            for row in told:
                if not any(row | {at} in told for at in range(len(rows)) if at not in row):
                    wanted.append(tuple(sorted((rows[at][0], x) for at in row for x in rows[at][1])))
            got = greatest_claims(book)
            self.assertIsInstance(got, list)
            self.same([claim.places for claim in got], sorted(wanted))
            self.assertTrue(all(claim.book == book for claim in got))

    def test_of_all_claims(self):
        """[63]: of small books, exactly those claims for which is_greatest() is True."""
        for book in some_books(83, 40, 3, 3):
            places = places_of(book)
            if len(places) <= 7:
                rows = [Claim(book, row) for row in subsets(places)]
                wanted = sorted(claim.places for claim in rows if claim.is_greatest())
                self.same([claim.places for claim in greatest_claims(book)], wanted)

    def test_facts(self):
        """[63]"""
        for book in self.books():
            nets, rows = reaches_of(book), greatest_claims(book)
            for claim in rows:
                self.assertTrue(claim.is_greatest() and claim == claim.whole())
                for i in range(len(book)):
                    houses = claim.houses_at(i)
                    self.assertTrue(houses == () or houses == nets[i].part(houses[0]))
            for one, other in itertools.permutations(rows, 2):
                self.assertFalse(set(one) <= set(other))
            for i, b in places_of(book):
                self.assertTrue(any((i, b) in claim for claim in rows))

    def test_no_place(self):
        """[63]"""
        book = Book(3, [Pattern([0, 1, 2])] * 2)
        rows = greatest_claims(book)
        self.same([len(rows), rows[0].places, rows[0].is_greatest()], [1, (), True])

    def test_full(self):
        """[64]"""
        for book in self.books():
            rows = greatest_claims(book)
            full = any(claim.full for claim in rows)
            table, parts = friend_table(book), part_places(book)
            groups = [[at for at, row in enumerate(parts) if row[0] == i] for i in range(len(book))]
            found = any(
                all(table[a][b] for a, b in itertools.combinations(row, 2)) for row in itertools.product(*groups))
            self.assertIs(full, found)
            if any(len(pattern.fallen) == book.houses for pattern in book):
                self.assertFalse(full)

    def test_handed_out(self):
        """[1]"""
        book = Book.alone(3)
        rows = greatest_claims(book)
        wanted = [claim.places for claim in rows]
        rows.clear()
        self.assertEqual([claim.places for claim in greatest_claims(book)], wanted)


def many_greatest(book):
    """The number of greatest claims, by a plain search for greatest sets of friends."""
    table = friend_table(book)
    near = [{x for x in range(len(table)) if table[at][x] and x != at} for at in range(len(table))]

    def grow(left, done):
        many = int(not left and not done)
        for at in sorted(left):
            many += grow(left & near[at], done & near[at])
            left, done = left - {at}, done | {at}
        return many
    return grow(set(range(len(table))), set())


class Limit(LinksCase):
    JUST = [
        (1, 4, 6), (2, 4), (0, 4, 5), (0, 2, 3), (4, 5, 6), (3, 4, 6), (2, 5, 6), (1, 3, 4), (0, 5, 6), (0, 2, 6),
        (1, 2, 5), (0, 3, 6),
    ]
    MORE = [
        (1, 4, 5), (0, 4, 5), (1, 3, 5), (0, 5, 6), (0, 3, 6), (1, 3, 4), (1, 5, 6), (0, 1, 5), (0, 1, 6), (0, 1, 2),
        (1, 5), (2,),
    ]

    def test_just_600(self):
        book = split_book(self.JUST)
        self.assertEqual([many_greatest(book), len(greatest_claims(book))], [600, 600])

    def test_601(self):
        for rows in (self.MORE, self.MORE[::-1]):
            book = split_book(rows)
            self.assertEqual(many_greatest(book), 601)
            self.raises(TooMany("claims"), greatest_claims, book)

    def test_far_too_many(self):
        rows = list(itertools.combinations(range(7), 3))[:12]
        self.raises(TooMany("claims"), greatest_claims, split_book(rows))


class Counted(LinksCase):
    def test_words(self):
        """[67]"""
        for book in some_books(84, 60) + list(single_books(85, 40)):
            self.assertEqual(count_keepable(book), len(keepable_choices(book)))

    def test_of_claims(self):
        for book in some_books(86, 40, 3, 3):
            places, nets = places_of(book), reaches_of(book)
            if len(places) <= 7:
                many = 0
                for row in subsets(places):
                    keepable = all(friends_by(nets, p, o) for p, o in itertools.combinations(row, 2))
                    many += keepable and Claim(book, row) == Claim(book, row).whole()
                self.assertEqual(count_keepable(book), many)

    def test_alone(self):
        """[67]"""
        for m in range(1, 8):
            self.assertEqual(count_keepable(Book.alone(m)), m * (2 ** (m - 1) - 1) + 1)

    def test_no_place(self):
        self.assertEqual(count_keepable(Book(2, [Pattern([0, 1])])), 1)

    def test_many(self):
        calm = Book(2, [Pattern()] * 12)
        self.assertEqual(count_keepable(calm), 2 ** 12)
        apart = Book(7, [Pattern((), Pattern.cut(range(7), range(7)))] * 12)
        self.assertEqual(count_keepable(apart), 7 * (2 ** 12 - 1) + 1)


class Extended(LinksCase):
    def words(self, claim):
        nets = reaches_of(claim.book)
        chosen = set(claim.whole())
        for i, houses in part_places(claim.book):
            if all(friends_by(nets, (i, houses[0]), place) for place in chosen):
                chosen |= {(i, x) for x in houses}
        return tuple(sorted(chosen))

    def test_words(self):
        pick = random.Random(87)
        for book in some_books(88, 80) + list(single_books(89, 40)):
            places = places_of(book)
            for size in (0, 1, 2, 3):
                claim = Claim(book, pick.sample(places, min(size, len(places))))
                if claim.keepable:
                    got = extended(claim)
                    self.same(got.places, self.words(claim))
                    self.assertTrue(got.is_greatest() and set(claim) <= set(got))
                else:
                    self.raises(Foes(*claim.foes()), extended, claim)


if __name__ == "__main__":
    unittest.main()
