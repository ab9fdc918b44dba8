"""Texts of patterns and books: points [23] to [26], and silentlinks/texts.py."""

import random
import unittest

from silentlinks.books import Book
from silentlinks.errors import BadBook, BadHouses, BadLinks, BadPattern, BadSet, BadText, TooMany
from silentlinks.patterns import Pattern
from silentlinks.texts import book_from, book_text, pattern_from, pattern_text
from support import LinksCase, all_patterns, some_books, some_patterns

DIGITS_30 = "1" * 30
DIGITS_31 = "1" * 31


class Written(LinksCase):
    def test_pattern_text(self):
        """[23]"""
        rows = [
            (Pattern(), "clear"),
            (Pattern([2, 0]), "fall 0 2"),
            (Pattern((), [(2, 0), (0, 1)]), "silent 0>1 2>0"),
            (Pattern([2, 0], [(2, 0), (0, 1)]), "fall 0 2; silent 0>1 2>0"),
            (Pattern([10, 9], [(10, 2), (9, 11)]), "fall 9 10; silent 9>11 10>2"),
        ]
        for pattern, text in rows:
            self.same(pattern_text(pattern), text)
            self.assertTrue(pattern_from(text) == pattern)

    def test_book_text(self):
        """[23]"""
        book = Book(3, [Pattern((), [(0, 1)]), Pattern(), Pattern([2, 0])])
        self.same(book_text(book), "houses 3\npattern silent 0>1\npattern clear\npattern fall 0 2")
        self.same(book_text(Book(1, [Pattern()])), "houses 1\npattern clear")

    def test_back(self):
        """[26]"""
        for pattern in all_patterns(2) + all_patterns(3)[::3] + some_patterns(1, 50, 7):
            self.assertTrue(pattern_from(pattern_text(pattern)) == pattern)
        for book in some_books(2, 60, 7, 8):
            self.assertTrue(book_from(book_text(book)) == book)

    def test_one_text_for_a_book(self):
        """[26]"""
        for book in some_books(3, 60):
            self.same(book_text(book_from(loosened(book, random.Random(1)))), book_text(book))


def loosened(book, pick):
    """A text of the book with its numbers and links in another order, more blanks and skipped lines."""
    lines = [f"houses {book.houses}"]
    for pattern in book:
        pieces = []
        if pattern.fallen:
            pieces.append(["fall"] + pick.sample([str(h) for h in pattern.fallen], len(pattern.fallen)))
        if pattern.silent:
            pieces.append(["silent"] + pick.sample([f"{a}>{b}" for a, b in pattern.silent], len(pattern.silent)))
        told = "; ".join(" ".join(piece) for piece in pieces) or "clear"
        lines.append("pattern " + told)
    rows = []
    for line in lines:
        rows.extend(pick.sample(["", "   ", "# houses 9", "  #", "#"], pick.randint(0, 3)))
        wide = "".join(" " * pick.randint(1, 3) if sign == " " else sign for sign in line)
        rows.append(" " * pick.randint(0, 2) + wide + " " * pick.randint(0, 2))
    return "\n".join(rows + [""] * pick.randint(0, 2))


class ReadPatterns(LinksCase):
    def test_taken(self):
        """[24]"""
        rows = [
            ("  clear ", Pattern()),
            ("fall   2  0 1", Pattern([0, 1, 2])),
            (" silent  2>0   0>1 ", Pattern((), [(0, 1), (2, 0)])),
            ("fall 1;   silent 1>0", Pattern([1], [(1, 0)])),
            ("fall 0", Pattern([0])),
            ("fall " + DIGITS_30, Pattern([int(DIGITS_30)])),
            (f"silent {DIGITS_30}>0", Pattern((), [(int(DIGITS_30), 0)])),
        ]
        for text, pattern in rows:
            self.assertTrue(pattern_from(text) == pattern, text)

    def test_wrong_form(self):
        """[24], [25]"""
        rows = [
            "", " ", "# clear", "clear # so", "clear clear", "Clear", "clear;", "calm", "pattern clear", "fall", "silent",
            "fall ", "fall; silent 0>1", "fall 1 ; silent 0>1", "fall 1;silent 0>1", "fall 1;", "fall 1; ", "fall 1; clear",
            "fall 1; silent", "fall 1; fall 2", "silent 0>1; fall 1", "silent 0>1;", "fall 1 silent 0>1",
            "fall 12 silent 0>1", "fall 1 2;; silent 0>1",
            "silent 0 >1", "silent 0> 1", "silent 0>1>2", "silent 0-1", "silent 01", "silent >1", "silent 0>", "silent >",
            "fall 01", "fall 00", "fall -1", "fall +1", "fall 1.0", "fall 1_0", "fall 0x1", "fall a", "fall 1,2", "fall True",
            "silent 00>1", "silent 0>01", "silent -1>0", "fall\t1", "fall 1\t", "\tclear", "fall 1\n", "\nfall 1", "fall 1\n2",
            "fall 1\r", "clear\n", "\n", "fall \u0661", "fall \u00b2", "fall 1\u00a02", "clear\u00a0", "fall " + DIGITS_31,
            "silent 0>" + DIGITS_31, "fall 0" + DIGITS_30, "fall " + "9" * 5000,
        ]
        for text in rows:
            caught = self.raises(BadText(1), pattern_from, text)
            self.assertIsNone(caught.__cause__, text)

    def test_refused(self):
        """[25]"""
        rows = [
            ("fall 1 1", BadSet(1)),
            ("fall 0 2 0; silent 0>1 0>1", BadSet(2)),
            ("silent 1>1", BadLinks(0)),
            ("silent 0>1 1>0 0>1", BadLinks(2)),
            ("fall 0; silent 2>2 0>1", BadLinks(0)),
        ]
        for text, cause in rows:
            caught = self.raises(BadText(1), pattern_from, text)
            self.assertIs(type(caught.__cause__), type(cause))
            self.assertEqual(vars(caught.__cause__), vars(cause))

    def test_form_first(self):
        """[25]: a line that has not its form is not asked for doubles."""
        for text in ("fall 1 1; silent", "fall 1 1; silent 0>x", "silent 1>1 2", "fall 1 1 x"):
            self.assertIsNone(self.raises(BadText(1), pattern_from, text).__cause__)


class ReadBooks(LinksCase):
    def cause(self, line, cause, text):
        caught = self.raises(BadText(line), book_from, text)
        self.assertIs(type(caught.__cause__), type(cause))
        if cause is not None:
            self.assertEqual(vars(caught.__cause__), vars(cause))

    def test_taken(self):
        """[24]"""
        book = book_from("\n  # first\nhouses   2 \n\n pattern  clear\n # pattern x\npattern fall 1 0\n   \n#")
        self.assertTrue(book == Book(2, [Pattern(), Pattern([0, 1])]))
        self.assertTrue(book_from("houses 7\n" + "\n".join(["pattern clear"] * 12)) == Book(7, [Pattern()] * 12))

    def test_wrong_lines(self):
        """[25]"""
        for head in ("house 2", "houses", "houses 2 3", "houses two", "houses 02", "houses -2", "pattern clear", "HOUSES 2",
                     "houses 2;", "houses\t2", "\thouses 2", "houses 2\r", "houses " + DIGITS_31, "\t", "\t# houses"):
            self.cause(1, None, head + "\npattern clear")
            self.cause(3, None, "\n#\n" + head + "\npattern x")
        for line in ("pattern", "pattern  ", "patterns clear", "clear", "houses 2", "pattern pattern clear", "pattern fall",
                     "pattern # clear", "pattern fall 0 ; silent 0>1", "\t", "pattern\tclear", "pattern clear\r"):
            self.cause(2, None, "houses 2\n" + line)
            self.cause(5, None, "houses 2\n\npattern clear\n # no\n" + line + "\npattern fall 1 1")

    def test_refused_lines(self):
        """[25]"""
        self.cause(3, BadSet(1), "houses 2\n\npattern fall 1 1\npattern x")
        self.cause(2, BadLinks(0), "houses 99\npattern silent 3>3")
        self.cause(2, None, "houses 99\npattern fall 1 1; silent")

    def test_book_refused(self):
        """[25]: the cause is that of the Book, the line the last one that is not skipped."""
        self.cause(2, BadHouses(), "\nhouses 0\n\n")
        self.cause(2, BadHouses(), "houses 8\npattern clear")
        self.cause(1, BadHouses(), "houses " + DIGITS_30)
        self.cause(1, BadBook(), "houses 2")
        self.cause(2, BadBook(), "#\nhouses 2\n# pattern clear\n")
        self.cause(14, TooMany("patterns"), "houses 2\n" + "pattern clear\n" * 13 + "\n#")
        self.cause(4, BadPattern(1), "houses 2\npattern clear\npattern fall 2\npattern fall 3\n")
        self.cause(2, BadPattern(0), "houses 2\npattern silent 0>" + DIGITS_30)
        self.cause(3, BadHouses(), "houses 9\npattern clear\npattern fall 99")

    def test_lines_first(self):
        self.cause(15, None, "houses 9\n" + "pattern clear\n" * 13 + "x")

    def test_all_skipped(self):
        """[25]"""
        for text, lines in (("", 1), (" ", 1), ("\n", 2), ("# a\n \n\n#", 4), ("   # houses 2", 1), ("\n\n\n", 4)):
            self.cause(lines, None, text)

    def test_only_line_feeds_separate(self):
        for sign in ("\r", "\x0b", "\x0c", "\x1c", "\u2028", "\x85"):
            self.cause(1, None, f"houses 2{sign}pattern clear")


if __name__ == "__main__":
    unittest.main()
