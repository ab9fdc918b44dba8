"""Sight: points [5], [60] and [61], and silentlinks/friends.py."""

import itertools
import unittest

from silentlinks.books import Book
from silentlinks.errors import NotAPlace
from silentlinks.friends import are_friends, blind, friend_table, part_places, sees
from silentlinks.patterns import Pattern
from support import NO_NUMBERS, LinksCase, friends_by, places_of, reaches_of, sees_by, some_books


def place_pairs():
    for book in some_books(60, 60):
        nets = reaches_of(book)
        for p, o in itertools.product(places_of(book), repeat=2):
            yield book, nets, p, o


class Sight(LinksCase):
    def test_words(self):
        """[5], [61]"""
        seen = set()
        for book, nets, p, o in place_pairs():
            there, back = sees_by(nets, p, o), sees_by(nets, o, p)
            seen.add((there, back))
            self.assertIs(sees(book, p, o), there)
            self.assertIs(are_friends(book, p, o), there and back)
        self.assertEqual(len(seen), 4)

    def test_blind(self):
        for book, nets, p, o in place_pairs():
            if friends_by(nets, p, o):
                self.assertIsNone(blind(book, p, o))
            else:
                seer, seen = (p, o) if not sees_by(nets, p, o) else (o, p)
                past, part = nets[seer[0]].past(seer[1]), nets[seen[0]].part(seen[1])
                self.same(blind(book, p, o), (seer, seen, past, part))
                self.assertFalse(set(past) & set(part))

    def test_facts(self):
        """[61]"""
        for book, nets, p, o in place_pairs():
            if p[1] == o[1]:
                self.assertIs(are_friends(book, p, o), True)
            if p[0] == o[0]:
                self.assertIs(are_friends(book, p, o), o[1] in nets[p[0]].part(p[1]))
            for mate in nets[p[0]].part(p[1]):
                self.assertIs(are_friends(book, (p[0], mate), o), are_friends(book, p, o))

    def test_lists_are_places(self):
        """[60]"""
        book = Book(2, [Pattern((), [(0, 1)]), Pattern()])
        self.same([sees(book, [0, 0], [0, 1]), sees(book, [0, 1], (0, 0))], [True, False])
        for rows in (([0, 1], [0, 0]), ([0, 0], [0, 1])):
            self.same(blind(book, *rows), ((0, 1), (0, 0), (1,), (0,)))

    def test_wrong_places(self):
        book = Book(2, [Pattern([1]), Pattern()])
        wrong = [(0, 1), (2, 0), (-1, 0), (0, 2), (0, -1), (0,), (0, 0, 0), (), "00", 0, None, {0: 0}, {0, 1}, [[0], 0]]
        wrong += [(value, 0) for value in NO_NUMBERS] + [(0, value) for value in NO_NUMBERS]
        for call in (sees, are_friends, blind):
            for value in wrong:
                self.raises(NotAPlace(0), call, book, value, value)
                self.raises(NotAPlace(1), call, book, (0, 0), value)


class Parts(LinksCase):
    def test_part_places(self):
        for book in some_books(61, 80):
            nets = reaches_of(book)
            rows = sorted({(i, nets[i].part(b)) for i, b in places_of(book)})
            self.same(part_places(book), tuple(rows))

    def test_table(self):
        for book in some_books(62, 80):
            nets, rows = reaches_of(book), part_places(book)
            wanted = tuple(
                tuple(friends_by(nets, (i, one[0]), (j, other[0])) for j, other in rows) for i, one in rows)
            self.same(friend_table(book), wanted)
            self.assertTrue(all(friend_table(book)[k][k] for k in range(len(rows))))

    def test_no_places(self):
        book = Book(2, [Pattern([0, 1])])
        self.same([part_places(book), friend_table(book)], [(), ()])


if __name__ == "__main__":
    unittest.main()
