"""Strikes, rounds and stretches: points [10], [126] to [128], and silentlinks/stretches.py."""

import itertools
import random
import unittest

from silentlinks.errors import BadNumber, BadPattern, BadSet, NotAwake
from silentlinks.machines import Gossip
from silentlinks.nets import Net
from silentlinks.patterns import Pattern
from silentlinks.stretches import (
    Within, do_all, do_rounds, is_closed, is_even, round_events, stretch_ends, strike,
)
from silentlinks.worlds import World
from runs import TOURS, Log, ends_by, loose_stretch, play, serves_by, some_nets, some_worlds, struck, telling
from support import NO_NUMBERS, LinksCase, some_pattern, subsets

CALM2 = Net(2, Pattern())
WRONG_SETS = (None, 5, "01", {0}, {0: 1}, (0, 0), [1, 0, 1], (2,), (-1,), (0, True), (0, 1.0), (None,), ((0,),))


def closed_by(net, houses):
    return not any(b in houses and a not in houses for a, b in net.links)


def some_set(pick, net):
    return pick.sample(net.alive, pick.randint(0, len(net.alive)))


class Strikes(LinksCase):
    def test_within(self):
        """[10]"""
        pick = random.Random(10)
        for world in some_worlds(10, 60):
            p = some_pattern(pick, world.houses)
            s = list(world)
            wanted = all(
                (e[0] not in ("fall", "wake") or e[1] in p.fallen) and (e[0] != "hush" or e[1:] in p.silent) for e in s)
            self.assertIs(Within(p)(s), wanted)
            self.assertIs(Within(p)(tuple(s)), wanted)
            every = Pattern(list(range(world.houses)), [(a, b) for a in range(4) for b in range(4) if a != b])
            self.assertIs(Within(every)(s), True)
        self.assertIs(Within(Pattern())(()), True)
        # A link with a fallen end is no silent one.
        self.assertIs(Within(Pattern([1]))((("hush", 0, 1),)), False)
        self.assertTrue(Within(p).pattern is p)

    def test_strike(self):
        """[10], [128]"""
        pick = random.Random(128)
        for world in some_worlds(128, 80):
            p = some_pattern(pick, world.houses)
            falls = [("fall", h) for h in sorted(p.fallen) if world.awake(h)]
            hushes = [("hush", a, b) for a, b in sorted(p.silent) if world.silent_since(a, b) is None]
            before = telling(world)
            events = strike(world, p)
            self.same(events, tuple(falls + hushes))
            self.same(telling(world), before)
            self.assertTrue(Within(p)(events))
            for event in events:
                world.do(event)
            self.same(strike(world, p), ())

    def test_strike_wrong(self):
        world = World(Gossip(2))
        for value in (None, 3, (), Pattern([2]), Pattern((), [(0, 2)]), Net(2, Pattern())):
            self.raises(BadPattern(-1), strike, world, value)

    def test_within_two(self):
        """[128]: within p is within p | q; within p and q is within p & q."""
        pick = random.Random(129)
        seen = set()
        for _ in range(300):
            n = pick.randint(2, 3)
            p, q = some_pattern(pick, n), some_pattern(pick, n)
            world = play(pick, World(Gossip(n)), 12, TOURS, pick.choice((p, q, p & q)))
            s = tuple(world)
            both = Within(p)(s) and Within(q)(s)
            seen.add(both)
            self.assertIs(Within(p & q)(s), both)
            self.assertTrue(Within(p | q)(s) or not (Within(p)(s) or Within(q)(s)))
        self.assertEqual(len(seen), 2)


class Rounds(LinksCase):
    def test_round_events(self):
        """[10]"""
        pick = random.Random(11)
        for net, plain in some_nets(12, 60, 4):
            world = play(pick, World(Gossip(net.houses)), 30)
            chosen = some_set(pick, net)
            before, asked = telling(world), list(chosen)
            events = round_events(world, net, chosen)
            ticks = [("tick", h) for h in sorted(chosen)]
            hands = [("hand", a, world.ticks(a) + 1, b) for a, b in plain.links if a in chosen and b in chosen]
            self.same(events, tuple(ticks + hands))
            self.same([telling(world), chosen], [before, asked])

    def test_do_rounds(self):
        """[10]: rounds counted from 1, with a tuple for each answer."""
        pick, rounds = random.Random(13), set()
        for net, plain in some_nets(13, 60, 4):
            chosen = some_set(pick, net)
            world, twin = World(Gossip(net.houses)), World(Gossip(net.houses))
            for h in chosen:
                world.do(("begin", h, ("tour", h)))
                twin.do(("begin", h, ("tour", h)))
            wanted = []
            for number in (1, 2, 3):
                for event in round_events(twin, net, chosen):
                    answer = twin.do(event)
                    if answer is not None:
                        wanted.append((number, event[1], answer))
            self.same(do_rounds(world, net, chosen, 3), wanted)
            rounds |= {row[0] for row in wanted}
            self.same(telling(world), telling(twin))
            self.same(do_rounds(world, net, chosen, 0), [])
        self.assertEqual(rounds, {1, 2})

    def test_gossip_in_rounds(self):
        """[127]"""
        seen = set()
        for net, plain in some_nets(127, 150):
            for chosen in subsets(net.alive):
                if not closed_by(net, chosen) or random.Random(str(chosen)).random() < 0.5:
                    continue
                for t in (0, 1, 3):
                    world = World(Gossip(net.houses))
                    do_rounds(world, net, chosen, t)
                    for a, b in itertools.product(chosen, repeat=2):
                        far = plain.far[a, b]
                        wanted = t if a == b else 0 if far is None else max(0, t + 1 - far)
                        seen.add(wanted)
                        self.assertEqual(world.state(b)[0][a], wanted)
        self.assertEqual(seen, {0, 1, 2, 3})

    def test_unwoken(self):
        """[127]: of a house outside the past nothing is ever heard."""
        pick = random.Random(127)
        for net, plain in some_nets(28, 60, 4):
            world = struck(pick, Gossip(net.houses), net.pattern)
            for _ in range(60):
                event = pick.choice((
                    ("tick", pick.randrange(net.houses)), ("hush", pick.randrange(net.houses), pick.randrange(net.houses)),
                    ("begin", pick.randrange(net.houses), ("tour", 1)),
                    ("hand", pick.randrange(net.houses), pick.randint(1, 6), pick.randrange(net.houses))))
                if world.can(event):
                    world.do(event)
                    for b in net.alive:
                        self.assertTrue(all(world.state(b)[0][a] == 0 for a in range(net.houses) if a not in plain.past(b)))

    def test_do_all(self):
        world = World(Gossip(2))
        events = [("begin", 0, ("tour", 7)), ("tick", 1), ("hand", 1, 1, 0), ("tick", 0), ("begin", 0, ("tour", 0)),
                  ("hand", 1, 1, 0), ("tick", 0)]
        told = do_all(world, events)
        self.same(told, [(3, 0, 7), (6, 0, 0)])
        told.clear()
        self.same([do_all(world, ()), do_all(world, (("begin", 1, ("tour", 1)), ("hand", 0, 1, 1), ("tick", 1)))], [[], [(9, 1, 1)]])

    def test_what_was_done_stays(self):
        """[1]: what do_all or do_rounds did ahead of the error stays done."""
        world = World(Gossip(2))
        self.raises(NotAwake(1), do_all, world, [("tick", 0), ("fall", 1), ("tick", 1), ("tick", 0)])
        self.same(list(world), [("tick", 0), ("fall", 1)])
        self.raises(NotAwake(1), do_rounds, world, CALM2, (0, 1), 2)
        self.same(list(world)[2:], [("tick", 0)])

    def test_wrong(self):
        world = World(Gossip(2))
        for houses in WRONG_SETS:
            self.raises(BadSet(-1), round_events, world, CALM2, houses)
            self.raises(BadSet(-1), do_rounds, world, CALM2, houses, -1)
        self.raises(BadSet(-1), round_events, world, Net(2, Pattern([1])), (0, 1))
        for many in (-1,) + NO_NUMBERS:
            self.raises(BadNumber("many"), do_rounds, world, CALM2, [0], many)
        self.same(world.clock, 0)


class Stretches(LinksCase):
    def test_closed(self):
        """[10]"""
        for net, plain in some_nets(14, 60, 4):
            for chosen in subsets(net.alive):
                self.assertIs(is_closed(net, list(chosen)[::-1]), closed_by(net, chosen))
            for b in net.alive:
                self.assertIs(is_closed(net, plain.past(b)), True)
        for houses in WRONG_SETS:
            self.raises(BadSet(-1), is_closed, CALM2, houses)

    def test_ends(self):
        """[10], [126]"""
        pick = random.Random(126)
        seen = set()
        for net, plain in some_nets(15, 70, 3):
            # All houses stay awake, so that the runs are served now and then.
            world = play(pick, World(Log(net.houses)), 70, TOURS, Pattern())
            s, chosen = list(world), some_set(pick, net)
            for start in (0, len(s) // 3, len(s)):
                wanted = ends_by(net, chosen, s, start)
                seen.add(min(len(wanted), 3))
                self.same(stretch_ends(net, chosen, s, start), wanted)
                self.same(stretch_ends(net, chosen, tuple(s), start), wanted)
        self.assertEqual(seen, {0, 1, 2, 3})

    def test_as_many_as_the_most(self):
        """[126]: as many as there are, at the most, successive runs that serve the houses."""
        pick = random.Random(16)
        for net, plain in some_nets(17, 25, 3):
            s, chosen = list(play(pick, World(Log(net.houses)), 25, TOURS, Pattern())), some_set(pick, net)
            best = [0] * (len(s) + 1)
            for start in reversed(range(len(s))):
                best[start] = max([best[start + 1]] + [
                    1 + best[end + 1] for end in range(start, len(s)) if serves_by(net, chosen, s, start, end)])
            for start in range(len(s) + 1):
                self.assertEqual(len(stretch_ends(net, chosen, s, start)), best[start])

    def test_empty_set(self):
        """stretch_ends: for an empty set every event is a stretch."""
        s = (("tick", 0), ("fall", 1), ("wake", 1))
        self.same([stretch_ends(CALM2, (), s, 0), stretch_ends(CALM2, [], s, 2), stretch_ends(CALM2, (), s, 3)], [(0, 1, 2), (2,), ()])

    def test_empty_schedule(self):
        self.same([stretch_ends(CALM2, (0, 1), (), 0), stretch_ends(CALM2, (), [], 0)], [(), ()])

    def test_sheets_made_earlier_do_not_serve(self):
        """[10]: only a sheet made in the run; ticks are counted from the beginning of the schedule."""
        s = [("tick", 0), ("tick", 1), ("hand", 0, 1, 1), ("hand", 1, 1, 0), ("tick", 0), ("tick", 1), ("hand", 0, 1, 1),
             ("hand", 1, 2, 0), ("hand", 0, 2, 1)]
        self.same(stretch_ends(CALM2, (0, 1), s, 0), (3, 8))
        self.same([stretch_ends(CALM2, (0, 1), s, 1), stretch_ends(CALM2, (1, 0), s, 2)], [(8,), (8,)])

    def test_gossip(self):
        """[126]: behind the j-th stretch the clock is greater than the number of ticks ahead."""
        pick = random.Random(18)
        for net, plain in some_nets(19, 50, 4):
            chosen = plain.past(pick.choice(net.alive)) if net.alive else ()
            if not chosen:
                continue
            self.assertTrue(closed_by(net, chosen))
            world = play(pick, World(Gossip(net.houses)), 20, TOURS, Pattern())
            start = world.clock
            for _ in range(3):
                loose_stretch(pick, world, net, chosen)
            s = list(world)
            ends = stretch_ends(net, chosen, s, start)
            self.assertGreaterEqual(len(ends), 3)
            early = World(Gossip(net.houses))
            ahead = [sum(e == ("tick", h) for e in s[:start]) for h in range(net.houses)]
            for time, event in enumerate(s):
                early.do(event)
                j = sum(end <= time for end in ends)
                for a, b in itertools.permutations(chosen, 2):
                    if plain.far[a, b] is not None and plain.far[a, b] <= j:
                        self.assertGreater(early.state(b)[0][a], ahead[a])

    def test_even(self):
        """[10]"""
        pick = random.Random(20)
        seen = set()
        for net, plain in some_nets(21, 40, 3):
            world = World(Log(net.houses))
            chosen = some_set(pick, net)
            loose_stretch(pick, world, net, chosen)
            do_rounds(world, net, chosen, 1)
            do_all(world, [("tick", h) for h in range(net.houses)])
            s = list(world)
            for start, end in itertools.combinations_with_replacement(range(len(s)), 2):
                serves = serves_by(net, chosen, s, start, end)
                wanted = serves and all(s[start:end + 1].count(("tick", h)) == 1 for h in chosen)
                seen.add((serves, wanted))
                self.assertIs(is_even(net, chosen, s, start, end), wanted)
        self.assertEqual(len(seen), 3)

    def test_wrong(self):
        s = [("tick", 0), ("tick", 1)]
        for houses in WRONG_SETS:
            self.raises(BadSet(-1), stretch_ends, CALM2, houses, s, 9)
            self.raises(BadSet(-1), is_even, CALM2, houses, s, 9, 9)
        for start in (-1, 3) + NO_NUMBERS:
            self.raises(BadNumber("start"), stretch_ends, CALM2, (0,), s, start)
        for start in (-1, 2) + NO_NUMBERS:
            self.raises(BadNumber("start"), is_even, CALM2, (0,), s, start, 9)
        for end in (-1, 0, 2) + NO_NUMBERS:
            self.raises(BadNumber("end"), is_even, CALM2, (0,), s, 1, end)
        self.same([is_even(CALM2, (1,), s, 1, 1), is_even(CALM2, (), s, 1, 1)], [True, True])
        self.raises(BadNumber("start"), is_even, CALM2, (), (), 0, 0)

    def test_inputs_stay(self):
        """[1]"""
        houses, s = [1, 0], [("tick", 1), ("tick", 0)]
        stretch_ends(CALM2, houses, s, 0), is_even(CALM2, houses, s, 0, 1), is_closed(CALM2, houses)
        self.same([houses, s], [[1, 0], [("tick", 1), ("tick", 0)]])


if __name__ == "__main__":
    unittest.main()
