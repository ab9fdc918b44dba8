"""Pasts and parts: points [42] and [47], and silentlinks/parts.py."""

import itertools
import unittest

from silentlinks.nets import Net
from silentlinks.parts import majority_part, ordered_parts, part, parts, past
from silentlinks.paths import reached
from silentlinks.patterns import Pattern
from support import LinksCase, Reach, all_patterns, sampled_patterns


def ordered_by(plain, rows):
    """The words of the interface: the least part that no other part left reaches comes next."""
    left, found = list(rows), []
    while left:
        free = [row for row in left if not any(row[0] in plain.after(o[0]) for o in left if o != row)]
        found.append(min(free))
        left.remove(found[-1])
    return tuple(found)


class Parts(LinksCase):
    def test_words(self):
        for houses, pattern in sampled_patterns():
            net, plain = Net(houses, pattern), Reach(houses, pattern)
            for b in plain.alive:
                self.same([past(net, b), part(net, b)], [plain.past(b), plain.part(b)])
            rows = tuple(sorted({plain.part(b) for b in plain.alive}))
            self.same(parts(net), rows)
            self.same(ordered_parts(net), ordered_by(plain, rows))

    def test_facts(self):
        """[42]"""
        for houses, pattern in sampled_patterns():
            net = Net(houses, pattern)
            rows = parts(net)
            self.same(tuple(sorted(itertools.chain(*rows))), net.alive)
            for row in rows:
                self.assertEqual({part(net, b) for b in row}, {row})
                self.assertEqual(len({past(net, b) for b in row}), 1)
            for b in net.alive:
                before = past(net, b)
                self.assertEqual(set(part(net, b)), set(before) & set(reached(net, b)))
                self.assertTrue(all(set(row) <= set(before) or not set(row) & set(before) for row in rows))
                self.assertFalse([link for link in net.links if link[0] not in before and link[1] in before])

    def test_order(self):
        """None reaches an earlier one, and all are told."""
        for houses, pattern in sampled_patterns():
            net = Net(houses, pattern)
            rows = ordered_parts(net)
            self.assertEqual(sorted(rows), sorted(parts(net)))
            for at, row in enumerate(rows):
                for earlier in rows[:at]:
                    self.assertNotIn(earlier[0], reached(net, row[0]))
        net = Net(3, Pattern((), [(0, 1), (0, 2), (1, 2), (2, 1), (1, 0)]))
        self.same([parts(net), ordered_parts(net)], [((0,), (1,), (2,)), ((1,), (2,), (0,))])

    def test_majority(self):
        """[47]"""
        for houses, pattern in sampled_patterns():
            net = Net(houses, pattern)
            rows = [row for row in parts(net) if 2 * len(row) > houses]
            self.assertLessEqual(len(rows), 1)
            self.same(majority_part(net), rows[0] if rows else None)
        # Fallen houses are counted among all, and just half of them are not enough.
        self.assertIsNone(majority_part(Net(4, Pattern([2, 3]))))
        self.same([majority_part(Net(3, Pattern([2]))), majority_part(Net(1, Pattern()))], [(0, 1), (0,)])

    def test_majorities_meet(self):
        """[47]"""
        rows = [majority_part(Net(3, pattern)) for pattern in all_patterns(3)]
        told = {row for row in rows if row is not None}
        self.assertGreater(len(told), 2)
        for first, other in itertools.product(told, repeat=2):
            self.assertTrue(set(first) & set(other))


if __name__ == "__main__":
    unittest.main()
