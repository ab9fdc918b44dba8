"""Points [203] to [205]: histories of one register."""

import unittest

from silentlinks.errors import BadRecord, NotOne
from silentlinks.judging import is_order
from silentlinks.search import find_order
from silentlinks.stretched import is_paper, value_ends, verdict
from orders import all_orders, one_register_histories
from support import NO_NUMBERS, LinksCase


def deeds_by(history, worth):
    """[203]: the spans of the deeds of a number that count."""
    gets = [r for r in history if r[1][0] == "get" and r[3] is not None]
    rows = [r for r in gets if r[4] == worth]
    for r in history:
        if r[1][0] == "put" and r[1][2] == worth and (r[3] is not None or any(g[4] == worth for g in gets)):
            rows.append(r)
    return [(r[2], r[3]) for r in rows] + ([(-1, -1)] if worth == 0 else [])


def ends_by(history, worth):
    spans = deeds_by(history, worth)
    if not spans:
        return (None, None)
    return (min(e for _, e in spans if e is not None), max(b for b, _ in spans))


def kind_by(history, worth):
    a, b = ends_by(history, worth)
    return None if a is None else "held" if a < b else "loose"


def holds_by(history, paper):
    """[204], word by word."""
    word = paper[0]
    if word == "unput":
        house, deed, begun, ended, answer = history[paper[1]]
        if deed[0] != "get" or ended is None or answer == 0:
            return False
        puts = [r for r in history if r[1][0] == "put" and r[1][2] == answer]
        return not puts or puts[0][2] > ended
    v, u = paper[1:]
    if v == u or kind_by(history, u) != "held":
        return False
    (a, b), (c, d) = ends_by(history, v), ends_by(history, u)
    if word == "across":
        return kind_by(history, v) == "held" and a < d and c < b
    return kind_by(history, v) == "loose" and c < b and a < d


def papers_by(history):
    """All papers, those that verdict prefers first."""
    numbers = sorted({0} | {r[1][2] for r in history if r[1][0] == "put"} | {r[4] for r in history if r[4] is not None})
    pairs = [(v, u) for v in numbers for u in numbers]
    rows = [("unput", place) for place in range(len(history))]
    rows += [("across", v, u) for v, u in pairs] + [("inside", v, u) for v, u in pairs]
    return [paper for paper in rows if holds_by(history, paper)]


class Stretched(LinksCase):
    def test_verdicts(self):
        """[204]: an order or a paper, never both; the paper is the first one, the order is one."""
        seen = {}
        for history in one_register_histories(21, 1500, 5):
            told = verdict(history)
            papers = papers_by(history)
            orders = all_orders(history)
            seen[told[0]] = seen.get(told[0], 0) + 1
            self.assertEqual(bool(papers), not orders)
            if papers:
                self.same(told, papers[0])
            else:
                self.assertIn(told[1], orders)
                self.assertEqual((type(told), len(told), told[0]), (tuple, 2, "order"))
        self.assertEqual(set(seen), {"order", "unput", "across", "inside"})
        self.assertGreater(min(seen.values()), 1)

    def test_larger_ones(self):
        for history in one_register_histories(22, 600, 9):
            told = verdict(history)
            if told[0] == "order":
                self.assertTrue(is_order(history, told[1]))
            else:
                self.assertIs(find_order(history), None)
                self.assertIs(is_paper(history, told), True)

    def test_ends_and_papers(self):
        """[203], [204]: the ends of every number, and whether each possible paper is one."""
        for history in one_register_histories(23, 400, 6):
            numbers = range(-3, 11)
            for worth in numbers:
                self.same(value_ends(history, worth), ends_by(history, worth))
            papers = papers_by(history)
            told = [("unput", place) for place in range(len(history))]
            told += [(word, v, u) for word in ("across", "inside") for v in numbers for u in numbers]
            for paper in told:
                self.same(is_paper(history, paper), paper in papers)
                self.same(is_paper(history, list(paper)), paper in papers)

    def test_sides(self):
        """[205]: in an order the deeds of a number stand side by side, its put first, those of 0 first of all."""
        for history in one_register_histories(24, 500, 7):
            told = verdict(history)
            if told[0] != "order":
                continue
            row = [history[at] for at in told[1]]
            worths = [r[1][2] if r[1][0] == "put" else r[4] for r in row]
            runs = [w for k, w in enumerate(worths) if k == 0 or worths[k - 1] != w]
            self.assertEqual(len(set(runs)), len(runs))
            if 0 in runs:
                self.assertEqual(runs[0], 0)
            for k, r in enumerate(row):
                if r[1][0] == "put":
                    self.assertTrue(k == 0 or worths[k - 1] != worths[k])
            held = [w for w in runs if kind_by(history, w) == "held"]
            for first, later in zip(held, held[1:]):
                self.assertLess(ends_by(history, first)[1], ends_by(history, later)[0])

    def test_touching(self):
        """Stretches that only touch are apart: the times of a history are unlike, so the next one may do."""
        one = [(0, ("put", 0, 1), 0, 1, 1), (1, ("get", 0), 3, 8, 1)]
        two = [(0, ("put", 0, 2), 2, 4, 2), (1, ("get", 0), 5, 6, 2)]
        self.same([value_ends(one + two, 1), value_ends(one + two, 2)], [(1, 3), (4, 5)])
        self.same(verdict(one + two), ("order", (0, 1, 2, 3)))
        near = [(0, ("put", 0, 1), 0, 1, 1), (1, ("get", 0), 5, 8, 1)]
        far = [(0, ("put", 0, 2), 2, 4, 2), (1, ("get", 0), 6, 7, 2)]
        self.same([value_ends(near + far, 1), value_ends(near + far, 2)], [(1, 5), (4, 6)])
        self.same(verdict(near + far), ("across", 1, 2))
        self.same([is_paper(near + far, ("across", v, u)) for v, u in ((1, 2), (2, 1), (1, 1))], [True, True, False])

    def test_loose_ones(self):
        """Two loose numbers are never a paper, not even one within the other; loose and held ones may be."""
        loose = [(0, ("put", 0, 1), 0, 9, 1), (1, ("put", 0, 2), 2, 5, 2)]
        self.same([value_ends(loose, 1), value_ends(loose, 2)], [(9, 0), (5, 2)])
        self.assertEqual(verdict(loose)[0], "order")
        self.same([is_paper(loose, ("inside", v, u)) for v, u in ((1, 2), (2, 1))], [False, False])
        held = [(0, ("put", 0, 3), 0, 1, 3), (0, ("get", 0), 8, 9, 3)]
        for begun, ended, wanted in ((2, 5, True), (10, 11, False)):
            records = held + [(1, ("put", 0, 4), begun, ended, 4)]
            self.same(is_paper(records, ("inside", 4, 3)), wanted)
            self.same(verdict(records)[0], "inside" if wanted else "order")

    def test_unput(self):
        """A number that no put puts; a put that began behind the end of the get, and one that did not."""
        for begun, wanted in ((5, True), (1, False)):
            records = [(0, ("get", 2), 0, 3, 4), (1, ("put", 2, 4), begun, None, None)]
            self.same(verdict(records)[0], "unput" if wanted else "order")
            self.same(is_paper(records, ("unput", 0)), wanted)
        self.same(verdict([(0, ("get", 2), 0, 3, 4)]), ("unput", 0))
        self.same(verdict([(0, ("get", 2), 0, 3, 0)]), ("order", (0,)))
        rows = [(0, ("get", 2), 0, None, None), (0, ("get", 2), 1, 2, 6), (0, ("get", 2), 3, 4, 6)]
        self.same(verdict(rows), ("unput", 1))
        self.same([is_paper(rows, ("unput", k)) for k in (0, 1, 2)], [False, True, True])

    def test_get_at_the_time_of_its_put(self):
        """A get that ends while the put of its number goes on stands behind this put."""
        for put in ((0, ("put", 2, 4), 0, 5, 4), (0, ("put", 2, 4), 0, None, None), (0, ("put", 2, 4), 2, 5, 4)):
            records = [(1, ("get", 2), 1, 3, 4), put]
            self.same(value_ends(records, 4), (3, max(1, put[2])))
            self.same(verdict(records), ("order", (1, 0)))
            self.same(is_paper(records, ("unput", 0)), False)

    def test_zero(self):
        """The number 0 has a put at time -1: a get of 0 behind a put that ended makes it held."""
        records = [(0, ("put", 0, 7), 0, 1, 7), (1, ("get", 0), 2, 3, 0)]
        self.same([value_ends(records, 0), value_ends(records, 7)], [(-1, 2), (1, 0)])
        self.same(verdict(records), ("inside", 7, 0))
        self.same(value_ends([], 0), (-1, -1))
        self.same(verdict([]), ("order", ()))

    def test_counting_puts(self):
        """An unended put counts once some ended get answers it."""
        put = (0, ("put", 0, 7), 4, None, None)
        self.same(value_ends([put], 7), (None, None))
        self.same(value_ends([put, (1, ("get", 0), 5, None, None)], 7), (None, None))
        self.same(value_ends([put, (1, ("get", 0), 2, 6, 7)], 7), (6, 4))
        self.same(verdict([put]), ("order", ()))
        self.same(verdict([(1, ("get", 0), 2, 6, 7), put]), ("order", (1, 0)))

    def test_wrong_histories(self):
        """BadRecord, then NotOne with the first position of a look, another register, a put of 0 or of a number again."""
        put, get = (0, ("put", 4, 1), 0, 1, 1), (0, ("get", 4), 2, 3, 1)
        wrong = [(0, ("look", 4), 10, 11, (0,) * 4), (0, ("get", 5), 10, None, None), (0, ("put", 4, 0), 10, 12, 1),
                 (0, ("put", 4, 1), 10, None, None), (0, ("look", 1), 10, None, None)]
        for call in (lambda rows: value_ends(rows, 1), verdict, lambda rows: is_paper(rows, None)):
            for record in wrong:
                self.raises(NotOne(2), call, (put, get, record))
                self.raises(NotOne(1), call, [put, record, get])
                self.raises(BadRecord(3), call, [put, record, get, 7])
            self.raises(NotOne(0), call, [wrong[0], put])
            self.raises(NotOne(0), call, [wrong[2], put])
            self.raises(BadRecord(-1), call, None)
            self.raises(BadRecord(0), call, [None])

    def test_values_as_papers(self):
        """is_paper takes values of any kind."""
        records = [(0, ("get", 4), 0, 1, 1), (0, ("put", 4, 2), 2, 3, 2), (0, ("get", 4), 5, 6, 0)]
        self.same(is_paper(records, ("unput", 0)), True)
        values = [None, 3, "unput", (), [], ("unput",), ("unput", 0, 0), ("unput", 3), ("unput", -1), ("unput", None), ("odd", 0),
                  (None, 0), (("unput",), 0), ("across", 0), ("inside", 2), ("across", None, 0), ("inside", [2], 0),
                  {"unput": 0}, ("inside", 2, 0, 0), ("order", (0, 1, 2)), ("outside", 2, 0)]
        for value in values:
            self.same(is_paper(records, value), False)
        self.same(is_paper(records, ("inside", 2, 0)), True)
        self.same(is_paper(records, ("inside", 2, False)), False)
        for value in NO_NUMBERS:
            self.same(is_paper(records, ("unput", value)), False)
            self.same(is_paper(records, ("inside", value, 0)), False)
            self.same(is_paper(records, ("inside", 2, value)), False)


if __name__ == "__main__":
    unittest.main()
