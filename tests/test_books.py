"""Books: points [3], [5] and [22], and silentlinks/books.py."""

import unittest

from silentlinks.books import Book
from silentlinks.errors import BadBook, BadHouses, BadPattern, OtherHouses, TooMany
from silentlinks.nets import Net
from silentlinks.patterns import Pattern
from support import NO_NUMBERS, LinksCase, all_patterns, links_between, some_books

CALM = Pattern()


def harshest_by(book):
    """The words of point [5], with the nets themselves."""
    found = []
    for i, own in enumerate(book.patterns):
        rows = [(j, p) for j, p in enumerate(book.patterns) if p.harsher(own)]
        if all(Net(book.houses, p) == Net(book.houses, own) and j >= i for j, p in rows):
            found.append(i)
    return tuple(found)


class Making(LinksCase):
    def test_attributes(self):
        rows = [Pattern([1]), CALM, Pattern([1])]
        book = Book(2, rows)
        self.assertEqual(book.houses, 2)
        self.assertIsInstance(book.patterns, tuple)
        self.assertEqual(list(book.patterns), rows)
        self.assertTrue(Book(2, tuple(rows)) == book)
        rows.append(CALM)
        rows[0] = CALM
        self.assertEqual([len(book), book[0].fallen], [3, (1,)])

    def test_sizes(self):
        for houses in (1, 7):
            self.assertEqual(Book(houses, [CALM]).houses, houses)
        self.assertEqual(len(Book(1, [CALM] * 12)), 12)
        self.raises(TooMany("patterns"), Book, 1, [CALM] * 13)
        self.raises(TooMany("patterns"), Book, 1, [None] * 13)

    def test_wrong(self):
        for houses in (0, 8, -1) + NO_NUMBERS:
            self.raises(BadHouses(), Book, houses, None)
        for rows in (None, CALM, {0: CALM}, "x", iter([CALM]), Book(2, [CALM])):
            self.raises(BadPattern(-1), Book, 2, rows)
        self.raises(BadBook(), Book, 2, [])
        self.raises(BadBook(), Book, 2, ())
        self.raises(BadPattern(1), Book, 2, [CALM, "clear", None])
        self.raises(BadPattern(0), Book, 2, [Pattern([2]), None])
        self.raises(BadPattern(1), Book, 2, [CALM, Pattern((), [(0, 2)])])


class Working(LinksCase):
    book = Book(3, [Pattern([0]), Pattern((), [(0, 1)]), Pattern([1, 2])])

    def test_len_and_order(self):
        self.same([len(self.book), [p.fallen for p in self.book]], [3, [(0,), (), (1, 2)]])
        self.assertEqual([list(self.book), list(self.book)], [list(self.book.patterns)] * 2)

    def test_item(self):
        self.assertEqual([self.book[k] for k in range(3)], list(self.book.patterns))
        for number in (-1, 3, slice(0, 1), (0,)) + NO_NUMBERS:
            self.raises(BadPattern(number), lambda: self.book[number])

    def test_equality(self):
        rows = list(self.book.patterns)
        self.assertIs(self.book == Book(3, [Pattern([0], ()), Pattern([], [[0, 1]]), Pattern((2, 1))]), True)
        self.assertIs(self.book == Book(3, rows[::-1]), False)
        self.assertIs(self.book == Book(4, rows), False)
        self.assertIs(self.book == Book(3, rows[:2]), False)
        # Equal nets are not equal patterns.
        self.assertIs(Book(2, [Pattern([0])]) == Book(2, [Pattern([0], [(0, 1)])]), False)
        for other in (None, rows, tuple(rows), 3):
            self.assertIs(self.book == other, False)

    def test_add(self):
        both = self.book + Book(3, [CALM])
        self.assertTrue(both == Book(3, list(self.book.patterns) + [CALM]))
        self.assertEqual(len(self.book), 3)
        self.raises(OtherHouses(), lambda: self.book + Book(4, [CALM]))
        self.assertEqual(len(self.book + Book(3, [CALM] * 9)), 12)
        self.raises(TooMany("patterns"), lambda: self.book + Book(3, [CALM] * 10))
        self.raises(OtherHouses(), lambda: self.book + Book(4, [CALM] * 12))

    def test_subtract(self):
        self.assertTrue(self.book - 1 == Book(3, [Pattern([0]), Pattern([1, 2])]))
        self.assertTrue(self.book - 0 - 1 == Book(3, [Pattern((), [(0, 1)])]))
        for number in (-1, 3) + NO_NUMBERS:
            self.raises(BadPattern(number), lambda: self.book - number)
        single = Book(3, [CALM])
        self.raises(BadBook(), lambda: single - 0)
        self.raises(BadPattern(1), lambda: single - 1)

    def test_replaced(self):
        self.assertTrue(self.book.replaced(2, CALM) == self.book - 2 + Book(3, [CALM]))
        self.assertEqual(len(self.book), 3)
        for number in (-1, 3) + NO_NUMBERS:
            self.raises(BadPattern(number), self.book.replaced, number, None)
        for pattern in (None, "clear", Pattern([3]), Pattern((), [(3, 0)])):
            self.raises(BadPattern(-1), self.book.replaced, 0, pattern)

    def test_alone(self):
        for houses in range(1, 8):
            book = Book.alone(houses)
            self.assertEqual(book.houses, houses)
            self.same([p.fallen for p in book], [(h,) for h in range(houses)])
            self.same({p.silent for p in book}, {tuple(links_between(houses))})
        for houses in (0, 8) + NO_NUMBERS:
            self.raises(BadHouses(), Book.alone, houses)


class Harshest(LinksCase):
    def books(self):
        yield from some_books(1, 250)
        yield Book(2, [p for p in all_patterns(2) if len(p.silent) == 1] + [CALM])
        yield Book(1, [CALM] * 12)
        yield Book.alone(4)

    def test_words(self):
        """[5]"""
        for book in self.books():
            self.same(book.harshest(), harshest_by(book))
        self.same(Book(2, [CALM, CALM, CALM]).harshest(), (0,))
        self.same(Book(2, [Pattern([0]), Pattern([0], [(0, 1)])]).harshest(), (0,))
        self.same(Book(2, [Pattern([0, 1]), Pattern([0])]).harshest(), (0,))

    def test_facts(self):
        """[22]"""
        for book in self.books():
            told = book.harshest()
            for pattern in book:
                self.assertTrue(any(book[k].harsher(pattern) for k in told))
            for k in told:
                self.assertFalse(any(book[k].harsher(book[j]) for j in told if j != k))

    def test_left_out(self):
        """[22]"""
        for book in self.books():
            told = book.harshest()
            for number in range(len(book)):
                if number not in told:
                    less = book - number
                    self.assertEqual([less[k] for k in less.harshest()], [book[k] for k in told])


if __name__ == "__main__":
    unittest.main()
