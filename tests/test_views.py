"""Views and pasts: points [11], [123] to [125], and silentlinks/views.py."""

import random
import unittest

from silentlinks.errors import BadHouse, BadNumber
from silentlinks.machines import Gossip
from silentlinks.schedules import exchanged, is_free
from silentlinks.views import newest, past_times, pruned, view
from silentlinks.worlds import World, run
from runs import TOURS, Log, house_by, past_by, play, some_worlds
from support import NO_NUMBERS, LinksCase


def view_by(world, house):
    rows = []
    for e in world:
        if house_by(e) == house and e[0] not in ("fall", "hush"):
            if e[0] == "begin":
                rows.append(("begin", e[2]))
            elif e[0] == "hand":
                rows.append(("hand", e[1], e[2], world.sheet(e[1], e[2])))
            else:
                rows.append((e[0],))
    return tuple(rows)


class Views(LinksCase):
    def test_view(self):
        """[11]"""
        for make in (Gossip, Log):
            for world in some_worlds(11, 40, 60, make):
                for h in range(world.houses):
                    self.same(view(world, h), view_by(world, h))

    def test_wrong(self):
        for house in (2, -1) + NO_NUMBERS:
            self.raises(BadHouse(house), view, World(Gossip(2)), house)
        self.same(view(World(Gossip(2)), 1), ())

    def test_equal_views(self):
        """[124]: equal views leave equal states, sheets, deeds and answers."""
        pick = random.Random(124)
        pairs = 0
        for world in some_worlds(125, 120, 50, Log):
            s = tuple(world)
            # Events that a house does not see: others' events, falls and hushes of its own.
            for time in range(len(s) - 1):
                if is_free(s, time) and pick.random() < 0.5:
                    s = exchanged(s, time)
            other = play(pick, run(world.machine, s), 8)
            for h in range(world.houses):
                if view(world, h) == view(other, h):
                    pairs += 1
                    self.same(world.state(h), other.state(h))
                    self.same(world.ticks(h), other.ticks(h))
                    for t in range(world.ticks(h)):
                        self.same(world.sheet(h, t + 1), other.sheet(h, t + 1))
                    told = [[(r[1], r[4]) for r in w.history() if r[0] == h] for w in (world, other)]
                    self.same(*told)
        self.assertGreater(pairs, 40)


class Pasts(LinksCase):
    def test_past_times(self):
        """[11]"""
        for world in some_worlds(111, 50, 60, Log):
            s = list(world)
            for time in range(len(s)):
                wanted = past_by(s, time)
                self.same(past_times(s, time), wanted)
                self.same(past_times(tuple(s), time), wanted)
                self.same(pruned(s, time), tuple(s[t] for t in wanted))
                for h in range(world.houses):
                    self.same(newest(s, time, h), sum(s[t] == ("tick", h) for t in wanted))

    def test_pruned(self):
        """[123]"""
        for world in some_worlds(123, 30, 50, Log):
            s = tuple(world)
            early = World(world.machine)
            for time, event in enumerate(s):
                early.do(event)
                self.same(run(world.machine, pruned(s, time)).state(house_by(event)), early.state(house_by(event)))

    def test_clocks(self):
        """[125]"""
        for world in some_worlds(126, 60, 60):
            s = list(world)
            for b in range(world.houses):
                own = [t for t, e in enumerate(s) if house_by(e) == b]
                for a in range(world.houses):
                    wanted = world.ticks(b) if a == b else newest(s, own[-1], a) if own else 0
                    self.same(world.state(b)[0][a], wanted)

    def test_wrong(self):
        s = [("tick", 0), ("tick", 1)]
        for time in (-1, 2) + NO_NUMBERS:
            self.raises(BadNumber("time"), past_times, s, time)
            self.raises(BadNumber("time"), pruned, s, time)
            self.raises(BadNumber("time"), newest, s, time, 0)
        self.raises(BadNumber("time"), past_times, (), 0)
        self.same([s, newest(s, 1, 5)], [[("tick", 0), ("tick", 1)], 0])

    def test_long_schedule(self):
        """Schedules of 5,000 events are in reach."""
        world = World(Gossip(3))
        play(random.Random(3), world, 9000, TOURS)
        s = list(world)[:5000]
        self.assertEqual(past_times(s, len(s) - 1)[-1], len(s) - 1)


if __name__ == "__main__":
    unittest.main()
