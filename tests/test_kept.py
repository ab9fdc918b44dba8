"""Kept links: point [45], and silentlinks/kept.py."""

import unittest

from silentlinks.echoes import distances, echo, inner
from silentlinks.kept import hushed, kept_links
from silentlinks.nets import Net
from silentlinks.parts import part, past
from silentlinks.paths import path
from silentlinks.patterns import Pattern
from support import LinksCase, sampled_patterns


def of_house(net, b):
    """All that [45] says of a house that the kept links leave as it was."""
    to = [inner(net, b, t) for t in range(net.houses)]
    out = [distances(net, b)[x] for x in part(net, b)]
    return [past(net, b), part(net, b), [echo(net, b, t) for t in range(2 * net.houses)], to, out]


def cases():
    for houses, pattern in sampled_patterns():
        net = Net(houses, pattern)
        for b in net.alive:
            yield net, b


class Kept(LinksCase):
    def test_words(self):
        """[45]"""
        for net, b in cases():
            links = {path(net, b, x)[-2:] for x in part(net, b) if x != b}
            links |= {path(net, x, b)[:2] for x in past(net, b) if x != b}
            self.same(kept_links(net, b), tuple(sorted(links)))

    def test_few(self):
        """[45]"""
        for net, b in cases():
            s, p = len(part(net, b)), len(past(net, b))
            self.assertLessEqual(len(kept_links(net, b)), 2 * (s - 1) + (p - s))

    def test_hushed(self):
        for net, b in cases():
            pattern = hushed(net, b)
            self.same(pattern.fallen, net.pattern.fallen)
            wanted = set(net.pattern.silent) | (set(net.links) - set(kept_links(net, b)))
            self.same(pattern.silent, tuple(sorted(wanted)))

    def test_the_same_for_the_house(self):
        """[45]"""
        for net, b in cases():
            less = Net(net.houses, hushed(net, b))
            self.same(less.links, kept_links(net, b))
            self.same(of_house(less, b), of_house(net, b))

    def test_none_to_spare(self):
        """[45]: if the house is alone in its part."""
        for net, b in cases():
            if len(part(net, b)) == 1:
                for link in kept_links(net, b):
                    less = Net(net.houses, hushed(net, b) | Pattern((), [link]))
                    self.assertNotEqual(of_house(less, b), of_house(net, b))

    def test_by_the_pattern(self):
        """[1]: hushed of equal nets goes by their patterns."""
        first, other = Net(2, Pattern([0])), Net(2, Pattern([0], [(0, 1)]))
        self.assertTrue(first == other)
        self.same([hushed(first, 1).silent, hushed(other, 1).silent], [(), ((0, 1),)])
        self.same([first.pattern.silent, kept_links(Net(1, Pattern()), 0)], [(), ()])


if __name__ == "__main__":
    unittest.main()
