"""Point [15]: papers."""

import unittest

from silentlinks.books import Book
from silentlinks.papers import Mute, Odd, Paper, TwoRuns
from silentlinks.patterns import Pattern
from support import LinksCase

BOOK = Book(2, [Pattern()])
EVENTS = [("tick", 0), ("tick", 1), ("hand", 0, 1, 1)]


class Papers(LinksCase):
    def test_attributes(self):
        mute, runs, odd = Mute(BOOK, EVENTS, 3, 1, 2), TwoRuns(BOOK, EVENTS, 3, 1, 0, 2), Odd(BOOK, EVENTS, 3, 1)
        for paper in (Paper(BOOK, EVENTS), mute, runs, odd):
            self.assertIsInstance(paper, Paper)
            self.assertIs(paper.book, BOOK)
            self.same(paper.schedule, tuple(EVENTS))
        self.same((mute.number, mute.house, mute.start), (3, 1, 2))
        self.same((runs.number, runs.writer, runs.reader, runs.start), (3, 1, 0, 2))
        self.same((odd.number, odd.house), (3, 1))

    def test_kinds(self):
        self.same([Paper.KIND, Mute.KIND, TwoRuns.KIND, Odd.KIND], ["paper", "mute", "two runs", "odd"])
        self.same([Paper(BOOK, ()).KIND, Odd(BOOK, (), 0, 0).KIND], ["paper", "odd"])

    def test_without(self):
        for start in range(3):
            wanted = tuple(event for at, event in enumerate(EVENTS) if at != start)
            self.same(TwoRuns(BOOK, EVENTS, 0, 1, 0, start).without(), wanted)

    def test_nothing_is_checked(self):
        """Nothing is checked when a paper is made, and later changes to the events passed have no effect."""
        self.same(Mute(None, [None, 5], True, "a", -1).schedule, (None, 5))
        self.same(Odd(3, (), None, None).house, None)
        events = list(EVENTS)
        paper = TwoRuns(BOOK, events, 0, 1, 0, 1)
        events.pop()
        self.same(paper.schedule, tuple(EVENTS))


if __name__ == "__main__":
    unittest.main()
