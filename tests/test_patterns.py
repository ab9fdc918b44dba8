"""Patterns: points [3], [20] and [21], and silentlinks/patterns.py."""

import itertools
import unittest

from silentlinks.errors import BadLinks, BadSet
from silentlinks.patterns import Pattern
from support import NO_NUMBERS, LinksCase, all_patterns, some_patterns, subsets


def alive_in(pattern, houses):
    return {h for h in range(houses) if h not in pattern.fallen}


def links_in(pattern, houses):
    alive = alive_in(pattern, houses)
    return {(a, b) for a in alive for b in alive if a != b} - set(pattern.silent)


def harsher_by(p, q, houses):
    """Point [20], on alive houses and lasting links."""
    return alive_in(p, houses) <= alive_in(q, houses) and links_in(p, houses) <= links_in(q, houses)


def pairs():
    yield from ((2, p, q) for p, q in itertools.product(all_patterns(2), repeat=2))
    for houses in (3, 4, 7):
        rows = some_patterns(houses, 30, houses)
        yield from ((houses, p, q) for p, q in itertools.product(rows, repeat=2))


class Making(LinksCase):
    def test_attributes(self):
        pattern = Pattern([5, 2], [[3, 0], (0, 3), (0, 1)])
        self.same([pattern.fallen, pattern.silent], [(2, 5), ((0, 1), (0, 3), (3, 0))])
        self.same([Pattern().fallen, Pattern().silent], [(), ()])
        self.same([Pattern(silent=((1, 0),)).silent, Pattern(fallen=(1,)).fallen], [((1, 0),), (1,)])

    def test_any_number_of_houses(self):
        great = 10 ** 29
        pattern = Pattern([great], [(great, 0)])
        self.same([pattern.fallen, pattern.silent], [(great,), ((great, 0),)])
        self.assertIs(pattern.fits(7), False)

    def test_wrong(self):
        self.raises(BadSet(-1), Pattern, None)
        self.raises(BadSet(-1), Pattern, {0}, None)
        self.raises(BadSet(1), Pattern, [0, -1], [(0, 0)])
        self.raises(BadSet(2), Pattern, [0, 1, 0])
        self.raises(BadLinks(-1), Pattern, (), {(0, 1)})
        self.raises(BadLinks(0), Pattern, [0], [(1, 1)])
        self.raises(BadLinks(1), Pattern, [0], [(0, 1), [0, 1]])
        self.raises(BadLinks(0), Pattern, (), [(0, -1)])
        for value in NO_NUMBERS:
            self.raises(BadSet(0), Pattern, [value])
            self.raises(BadLinks(0), Pattern, (), [(value, 0)])
            self.raises(BadLinks(0), Pattern, (), [(2, value)])

    def test_handed_in(self):
        fallen, silent = [1], [[0, 2]]
        pattern = Pattern(fallen, silent)
        fallen.append(5)
        silent[0][0] = 1
        silent.append([2, 1])
        self.same([pattern.fallen, pattern.silent], [(1,), ((0, 2),)])

    def test_calm_and_cut(self):
        self.same([Pattern.calm().fallen, Pattern.calm().silent], [(), ()])
        self.same(Pattern.cut([2, 1], (0, 1)), ((1, 0), (2, 0), (2, 1)))
        self.same(Pattern.cut((), [1]), ())
        self.same(Pattern.cut([1, 1], [0, 0, 1]), ((1, 0),))
        self.same(Pattern.cut(range(0), []), ())


class Asking(LinksCase):
    def test_fits(self):
        pattern = Pattern([1], [(3, 0)])
        self.same([pattern.fits(h) for h in range(1, 8)], [False, False, False, True, True, True, True])
        self.same([Pattern().fits(1), Pattern([6]).fits(7), Pattern([6]).fits(6)], [True, True, False])
        self.assertIs(Pattern((), [(0, 6)]).fits(6), False)

    def test_standing_and_lasting(self):
        for houses, pattern, _ in pairs():
            self.same(pattern.standing(houses), tuple(sorted(alive_in(pattern, houses))))
            self.same(pattern.lasting(houses), tuple(sorted(links_in(pattern, houses))))
            for a in range(houses):
                for b in range(houses):
                    self.assertIs(pattern.lasts(a, b), (a, b) in links_in(pattern, houses))
        self.same(Pattern([0], [(1, 0)]).standing(1), ())

    def test_lasts_for_all_numbers(self):
        pattern = Pattern([9], [(8, 7)])
        told = [pattern.lasts(a, b) for a, b in ((8, 7), (7, 8), (9, 8), (8, 9), (50, 50), (50, 60))]
        self.same(told, [False, True, False, False, False, True])

    def test_equality(self):
        self.assertIs(Pattern([1, 0], [[0, 1]]) == Pattern((0, 1), ((0, 1),)), True)
        self.assertIs(Pattern([1]) == Pattern(), False)
        self.assertIs(Pattern((), [(0, 1)]) == Pattern((), [(1, 0)]), False)
        self.assertIs(Pattern([0], [(0, 1)]) == Pattern([0]), False)
        for other in (None, ((), ()), "clear", 0):
            self.assertIs(Pattern() == other, False)
            self.assertIs(Pattern() != other, True)


class Harsher(LinksCase):
    def test_harsher(self):
        """[20]"""
        for houses, p, q in pairs():
            self.assertIs(p.harsher(q), harsher_by(p, q, houses))
            same = alive_in(p, houses) == alive_in(q, houses) and links_in(p, houses) == links_in(q, houses)
            self.assertIs(p.harsher(q) and q.harsher(p), same)

    def test_all_of_three_houses(self):
        rows = all_patterns(3)
        for p in rows[::7]:
            for q in rows:
                self.assertIs(p.harsher(q), harsher_by(p, q, 3))

    def test_in_a_row(self):
        rows = some_patterns(5, 25, 3)
        for p, q, r in itertools.product(rows, repeat=3):
            if p.harsher(q) and q.harsher(r):
                self.assertIs(p.harsher(r), True)

    def test_plain(self):
        """[20]"""
        for pattern in all_patterns(3):
            plain = pattern.plain()
            self.same(plain.fallen, pattern.fallen)
            kept = tuple((a, b) for a, b in pattern.silent if not {a, b} & set(pattern.fallen))
            self.same(plain.silent, kept)
            self.assertIs(pattern.harsher(plain) and plain.harsher(pattern), True)


class Operators(LinksCase):
    def test_or_and_and(self):
        """[21]"""
        for houses, p, q in pairs():
            both, few = p | q, p & q
            self.same(both.fallen, tuple(sorted({*p.fallen, *q.fallen})))
            self.same(both.silent, tuple(sorted({*p.silent, *q.silent})))
            self.same(few.fallen, tuple(h for h in p.fallen if h in q.fallen))
            self.same(few.silent, tuple(link for link in p.silent if link in q.silent))
            self.assertTrue(both.harsher(p) and both.harsher(q) and p.harsher(few) and q.harsher(few))
            self.assertEqual(alive_in(both, houses), alive_in(p, houses) & alive_in(q, houses))
            self.assertEqual(links_in(both, houses), links_in(p, houses) & links_in(q, houses))
            self.assertTrue(both == q | p and few == q & p)

    def test_same_operands(self):
        for pattern in all_patterns(2) + some_patterns(9, 20, 5):
            self.assertTrue(pattern | pattern == pattern and pattern & pattern == pattern)

    def test_harsher_than_both(self):
        rows = some_patterns(11, 22, 3) + [Pattern(fallen) for fallen in subsets(range(3))]
        for p, q, r in itertools.product(rows, repeat=3):
            self.assertIs(r.harsher(p | q), r.harsher(p) and r.harsher(q))

    def test_operands_stay(self):
        p, q = Pattern([0], [(1, 2)]), Pattern([1], [(2, 1)])
        self.assertFalse(p | q is p)
        p | q, p & q, p.plain()
        self.same([p.fallen, p.silent, q.fallen, q.silent], [(0,), ((1, 2),), (1,), ((2, 1),)])


if __name__ == "__main__":
    unittest.main()
