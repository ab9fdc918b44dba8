"""Distances and echoes: point [44], and silentlinks/echoes.py."""

import unittest

from silentlinks.echoes import distance, distances, echo, full_span, inner, round_trip
from silentlinks.nets import Net
from silentlinks.parts import part
from silentlinks.patterns import Pattern
from support import LinksCase, Reach, links_between, sampled_patterns


class Echoes(LinksCase):
    def test_words(self):
        for houses, pattern in sampled_patterns():
            net, plain = Net(houses, pattern), Reach(houses, pattern)
            for b in plain.alive:
                self.same(distances(net, b), tuple(plain.far.get((b, x)) for x in range(houses)))
                for x in plain.alive:
                    self.same([distance(net, b, x), round_trip(net, b, x)], [plain.far[b, x], plain.trip(b, x)])
                for t in range(2 * houses):
                    self.same(echo(net, b, t), plain.echo(b, t))
                    near = tuple(x for x in plain.past(b) if plain.far[x, b] <= t)
                    self.same(inner(net, b, t), near)
                self.same(full_span(net, b), max(plain.trip(b, x) for x in plain.part(b)))

    def test_facts(self):
        """[44]"""
        for houses, pattern in sampled_patterns():
            net = Net(houses, pattern)
            for b in net.alive:
                span, whole = full_span(net, b), part(net, b)
                self.same([echo(net, b, 0), echo(net, b, span), echo(net, b, span + 5)], [(b,), whole, whole])
                if span > 0:
                    self.assertNotEqual(echo(net, b, span - 1), whole)
                for t in range(span):
                    self.assertLessEqual(set(echo(net, b, t)), set(echo(net, b, t + 1)))
                self.assertLessEqual(span, 2 * (len(whole) - 1))
                self.assertIs(span == 0, len(whole) == 1)

    def test_rows_and_rings(self):
        """[44]"""
        for s in range(1, 8):
            row = {(a, b) for a, b in links_between(7) if abs(a - b) == 1 and max(a, b) < s}
            net = Net(7, Pattern((), [link for link in links_between(7) if link not in row]))
            self.same([full_span(net, 0), full_span(net, s - 1)], [2 * (s - 1)] * 2)
            if s >= 2:
                ring = {(a, (a + 1) % s) for a in range(s)}
                net = Net(7, Pattern((), [link for link in links_between(7) if link not in ring]))
                self.same([full_span(net, b) for b in range(s)], [s] * s)


if __name__ == "__main__":
    unittest.main()
