"""Critical books, dear links and houses: points [103] and [104], and silentlinks/critical.py."""

import random
import unittest

from silentlinks.books import Book
from silentlinks.choices import full_claim
from silentlinks.counted import counted_refusal
from silentlinks.critical import critical, dear_houses, dear_links, harden, is_critical
from silentlinks.errors import BadPattern, NoFullClaim
from silentlinks.patterns import Pattern
from support import NO_NUMBERS, LinksCase, links_between, some_books


def has_full(houses, patterns):
    return len(patterns) == 0 or full_claim(Book(houses, patterns)) is not None


def critical_by(book):
    numbers = list(range(len(book)))
    if has_full(book.houses, list(book)):
        return None
    for number in range(len(book)):
        left = [k for k in numbers if k != number]
        if not has_full(book.houses, [book[k] for k in left]):
            numbers = left
    return tuple(numbers)


class Critical(LinksCase):
    def books(self):
        return some_books(103, 200, 4, 6) + [Book.alone(n) for n in range(1, 6)] + [Book(1, [Pattern([0])] * 2)]

    def test_words(self):
        """[103]"""
        seen = set()
        for book in self.books():
            told = critical_by(book)
            self.same(critical(book), told)
            rows = [[p for k, p in enumerate(book) if k != number] for number in range(len(book))]
            wanted = told is not None and all(has_full(book.houses, row) for row in rows)
            seen.add(wanted)
            self.assertIs(is_critical(book), wanted)
            if told is not None:
                self.assertIs(is_critical(Book(book.houses, [book[k] for k in told])), True)
        self.assertEqual(len(seen), 2)

    def test_facts(self):
        """[103]"""
        for book in self.books():
            if full_claim(book) is None:
                self.assertEqual({h for pattern in book for h in pattern.fallen}, set(range(book.houses)))
            if is_critical(book) and len(book) >= 2:
                for j, one in enumerate(book):
                    for k, other in enumerate(book):
                        self.assertTrue(j == k or not one.harsher(other))

    def test_alone(self):
        """[103]"""
        for n in range(1, 8):
            self.same([is_critical(Book.alone(n)), critical(Book.alone(n))], [True, tuple(range(n))])

    def test_one_pattern(self):
        """Where nothing is left, there is a full claim."""
        self.same([critical(Book(2, [Pattern([0, 1])])), is_critical(Book(2, [Pattern([0, 1])]))], [(0,), True])
        self.same([critical(Book(2, [Pattern()])), is_critical(Book(2, [Pattern()]))], [None, False])
        twice = Book(2, [Pattern([0, 1])] * 2)
        self.same([critical(twice), is_critical(twice)], [(1,), False])


class Dear(LinksCase):
    def books(self):
        """Books with a full claim: of any patterns, and such in which every house falls in some pattern."""
        yield from (book for book in some_books(104, 60, 4, 4) if full_claim(book) is not None)
        pick = random.Random(104)
        for houses in (3, 4, 5) * 8:
            rows = []
            for house in range(houses):
                links = pick.sample(links_between(houses), pick.randint(0, houses // 2))
                rows.append(Pattern([house], links))
            book = Book(houses, rows)
            if full_claim(book) is not None:
                yield book
                yield harden(book, 0)
        for book in (Book.alone(3), Book.alone(5), counted_refusal(4, 1, 2), counted_refusal(5, 1, 4)):
            for number in range(len(book)):
                if full_claim(book - number) is not None:
                    yield book - number

    def test_dear(self):
        """[104]"""
        many = [0, 0]
        for book in self.books():
            for number, pattern in enumerate(book):
                links = tuple(
                    link for link in pattern.lasting(book.houses)
                    if full_claim(book.replaced(number, pattern | Pattern((), [link]))) is None)
                houses = tuple(
                    h for h in pattern.standing(book.houses)
                    if full_claim(book.replaced(number, pattern | Pattern([h]))) is None)
                self.same([dear_links(book, number), dear_houses(book, number)], [links, houses])
                many = [many[0] + len(links), many[1] + len(houses)]
        self.assertGreater(min(many), 10)

    def test_harden(self):
        for book in self.books():
            number = random.Random(len(book)).randrange(len(book))
            made = book
            for link in book[number].lasting(book.houses):
                harder = made.replaced(number, made[number] | Pattern((), [link]))
                if full_claim(harder) is not None:
                    made = harder
            got = harden(book, number)
            self.assertTrue(got == made)
            self.assertIsNotNone(full_claim(got))
            self.same(dear_links(got, number), got[number].lasting(book.houses))

    def test_book_stays(self):
        book = Book(2, [Pattern(), Pattern([1])])
        got = harden(book, 0)
        self.assertTrue(book == Book(2, [Pattern(), Pattern([1])]))
        self.same([got[0].silent, got[1].fallen], [((0, 1), (1, 0)), (1,)])

    def test_new_book(self):
        """A new Book is returned, also if no link can be spared."""
        book = Book(1, [Pattern()])
        self.assertIsNot(harden(book, 0), book)

    def test_one_house(self):
        book = Book(1, [Pattern()])
        self.same([dear_links(book, 0), dear_houses(book, 0), harden(book, 0) == book], [(), (0,), True])

    def test_wrong(self):
        good, bad = Book(2, [Pattern()]), Book.alone(2)
        for call in (dear_links, dear_houses, harden):
            self.raises(NoFullClaim(), call, bad, 1)
            self.raises(NoFullClaim(), call, Book(2, [Pattern([0, 1])]), 0)
            for book in (good, bad):
                for number in (-1, 2) + NO_NUMBERS:
                    self.raises(BadPattern(number), call, book, number)


if __name__ == "__main__":
    unittest.main()
