"""Counted patterns: points [105] to [107], and silentlinks/counted.py."""

import itertools
import random
import unittest

from silentlinks.books import Book
from silentlinks.choices import full_choices, full_claim
from silentlinks.counted import counted_bound, counted_chain, counted_refusal, counted_split, is_counted
from silentlinks.errors import BadHouses, BadNumber, BadPattern, BadSet, NotASplit
from silentlinks.lots import Lots
from silentlinks.nets import Net
from silentlinks.parts import majority_part
from silentlinks.patterns import Pattern
from silentlinks.served import served
from support import NO_NUMBERS, LinksCase, all_patterns, links_between, subsets

COUNTS = [(n, k) for n in range(1, 8) for k in range(1, 9)]


def sizes(n, k):
    h = n // 2
    return h, n - h - k


def some_counted(pick, n, k, m):
    """A counted pattern, with as many falls and silent links as it may have."""
    fallen = pick.sample(range(n), min(k, n))
    links = [(a, b) for a, b in links_between(n) if a not in fallen and b not in fallen]
    silent = pick.sample(links, min(m, len(links)))
    return Pattern(fallen, silent + [link for link in links_between(n) if link not in links and pick.random() < 0.3])


class Bound(LinksCase):
    def test_words(self):
        """[105]"""
        for n, k in COUNTS:
            h, u = sizes(n, k)
            self.same(counted_bound(n, k), u * h if u >= 1 else 0)
        told = [counted_bound(n, k) for n, k in ((7, 1), (6, 1), (1, 1), (3, 10 ** 29))]
        self.same(told, [9, 6, 0, 0])

    def test_is_counted(self):
        """[105]"""
        for pattern in all_patterns(2) + all_patterns(3)[::5]:
            n = 3
            for k, m in itertools.product((1, 2, 3), (0, 1, 2, 6)):
                open_silent = [(a, b) for a, b in pattern.silent if not {a, b} & set(pattern.fallen)]
                self.assertIs(is_counted(n, pattern, k, m), len(pattern.fallen) <= k and len(open_silent) <= m)

    def test_majority(self):
        """[105]: below the bound each counted pattern has a part of more than half."""
        pick = random.Random(105)
        for n, k in COUNTS:
            for m in range(counted_bound(n, k)):
                lots, rows = Lots.majority(n), [some_counted(pick, n, k, m) for _ in range(6)]
                for pattern in rows:
                    self.assertIs(is_counted(n, pattern, k, m), True)
                    self.assertIsNotNone(majority_part(Net(n, pattern)))
                self.assertEqual({i for i, b in served(lots, Book(n, rows))}, set(range(6)))
                self.assertIsNotNone(full_claim(Book(n, rows)))

    def test_all_of_three_houses(self):
        """[105]"""
        for pattern in all_patterns(3):
            if is_counted(3, pattern, 1, 0):
                self.assertIsNotNone(majority_part(Net(3, pattern)))


class Split(LinksCase):
    def test_words(self):
        """[107]"""
        for n, k in COUNTS:
            h, u = sizes(n, k)
            if u < 1:
                self.raises(NotASplit(), counted_split, n, k)
                continue
            pattern = counted_split(n, k)
            self.same(pattern.fallen, tuple(range(n - k, n)))
            self.same(pattern.silent, tuple((a, b) for a in range(h, h + u) for b in range(h)))
            self.assertIsNone(majority_part(Net(n, pattern)))
            self.assertEqual([len(pattern.silent), is_counted(n, pattern, k, u * h)], [counted_bound(n, k), True])


class Chain(LinksCase):
    def chains(self):
        for n, k in COUNTS:
            for chosen in subsets(range(n)):
                if 1 <= len(chosen) <= max(1, sizes(n, k)[1]):
                    yield n, k, chosen

    def test_words(self):
        """[106]"""
        for n, k, chosen in self.chains():
            left, wanted = list(chosen), []
            while len(left) > k:
                out = [h for h in range(n) if h not in left]
                wanted.append((tuple(left[:k]), tuple((a, b) for a in left[k:] for b in out)))
                left = left[k:]
            wanted.append((tuple(left), ()))
            got = counted_chain(n, k, list(chosen)[::-1])
            self.assertIsInstance(got, tuple)
            self.same([(p.fallen, p.silent) for p in got], wanted)

    def test_chosen_stays(self):
        """[1]"""
        chosen = [3, 2]
        counted_chain(5, 1, chosen)
        self.assertEqual(chosen, [3, 2])

    def test_facts(self):
        """[106]"""
        for n, k, chosen in self.chains():
            rows = counted_chain(n, k, chosen)
            bound = counted_bound(n, k)
            if sizes(n, k)[1] >= 1:
                self.assertTrue(all(is_counted(n, pattern, k, bound) for pattern in rows))
            if n <= 5:
                book = Book(n, (Pattern(),) + rows)
                for claim in full_choices(book):
                    for i, b in claim:
                        houses = claim.houses_at(i)
                        self.assertFalse(set(houses) <= set(chosen))


class Refusal(LinksCase):
    def words(self, n, k):
        h, u = sizes(n, k)
        if u < 1:
            first = list(range(min(k, n)))
            return [Pattern(first)] + ([Pattern(list(range(k, n)))] if k < n else [])
        alive = list(range(n - h, n)) + list(range(u))
        facing = Pattern(
            [x for x in range(n) if x not in alive], [(a, b) for a in range(n - h, n) for b in range(u)])
        chains = counted_chain(n, k, list(range(h, h + u))) + counted_chain(n, k, list(range(u)))
        return [counted_split(n, k), facing, *chains]

    def test_words(self):
        """[105], [107]"""
        for n, k in COUNTS:
            bound = counted_bound(n, k)
            for m in range(bound):
                self.assertIsNone(counted_refusal(n, k, m))
            for m in (bound, bound + 1, 10 ** 29):
                book = counted_refusal(n, k, m)
                self.assertTrue(book == Book(n, self.words(n, k)))
                self.assertLessEqual(len(book), 8)
                self.assertTrue(all(is_counted(n, pattern, k, bound) for pattern in book))
                self.assertIsNone(full_claim(book))

    def test_bound_of_0(self):
        self.same([counted_bound(2, 1), [p.fallen for p in counted_refusal(2, 1, 0)]], [0, [(0,), (1,)]])
        self.same([p.fallen for p in counted_refusal(1, 1, 0)], [(0,)])
        self.same([p.fallen for p in counted_refusal(3, 5, 0)], [(0, 1, 2)])


class Wrong(LinksCase):
    calls = (
        lambda n, k, m=0: counted_bound(n, k), lambda n, k, m=0: counted_split(n, k),
        lambda n, k, m=0: counted_chain(n, k, None), counted_refusal,
    )

    def test_counts(self):
        for call in self.calls:
            for n in (0, 8) + NO_NUMBERS:
                self.raises(BadHouses(), call, n, None, None)
            for k in (0, -1) + NO_NUMBERS:
                self.raises(BadNumber("falls"), call, 3, k, None)
        for k in (1, 3):
            for m in (-1,) + NO_NUMBERS:
                self.raises(BadNumber("silents"), counted_refusal, 3, k, m)

    def test_is_counted(self):
        for n in (0, 8) + NO_NUMBERS:
            self.raises(BadHouses(), is_counted, n, None, None, None)
        for pattern in (None, "clear", Pattern([3]), Pattern((), [(0, 3)])):
            self.raises(BadPattern(-1), is_counted, 3, pattern, None, None)
        for value in (0, -1) + NO_NUMBERS:
            self.raises(BadNumber("falls"), is_counted, 3, Pattern(), value, None)
        for value in (-1,) + NO_NUMBERS:
            self.raises(BadNumber("silents"), is_counted, 3, Pattern(), 1, value)

    def test_chain(self):
        self.raises(BadSet(-1), counted_chain, 5, 1, None)
        self.raises(BadSet(1), counted_chain, 5, 1, [0, 5, 1, 2])
        self.raises(BadSet(1), counted_chain, 5, 1, [0, 0])
        self.raises(BadSet(-1), counted_chain, 5, 1, [])
        self.raises(BadSet(-1), counted_chain, 5, 1, [0, 1, 2])
        self.raises(BadSet(-1), counted_chain, 3, 2, [0, 1])
        self.same([p.fallen for p in counted_chain(3, 2, [1])], [(1,)])
        for value in NO_NUMBERS:
            self.raises(BadSet(0), counted_chain, 5, 1, [value])


if __name__ == "__main__":
    unittest.main()
