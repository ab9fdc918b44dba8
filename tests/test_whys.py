"""Points [282] and [283]: why a deed waits, and what becomes of a house."""

import random
import unittest

from silentlinks.errors import BadHouse, IsFallen, NotTouring, OtherHouses
from silentlinks.lots import Lots
from silentlinks.machines import Gossip
from silentlinks.memory import Memory
from silentlinks.moving import Moving
from silentlinks.nets import Net
from silentlinks.patterns import Pattern
from silentlinks.served import echo_time, push_time
from silentlinks.sided import Sided
from silentlinks.stretches import do_rounds
from silentlinks.tours import Touring
from silentlinks.whys import fate, what_serves, why
from silentlinks.worlds import World
from breaking import lots_for
from runs import TOURS, play, some_nets, struck
from support import NO_NUMBERS, LinksCase, some_lots
from touring import deeds_for, some_memory, some_way


def why_by(world, h):
    """[282], word by word."""
    board, deed, turn, running, log = world.state(h)
    if world.deed(h) is None:
        return ("idle",)
    if running is None:
        return ("card",)
    lots = world.machine.lots_for(world.deed(h))
    if running[4] is None:
        return ("echo", tuple((lot, tuple(x for x in lot if board[x][1][h] < running[2])) for lot in lots.asked))
    return ("past", running[4], tuple((lot, tuple(x for x in lot if board[x][0] < running[4])) for lot in lots.heard))


def machines(pick):
    houses = pick.randint(1, 4)
    lots = lots_for(pick, houses)
    made = pick.randrange(4)
    if made == 0:
        return Touring(lots), TOURS
    if made == 1:
        return Sided(lots, lots_for(pick, houses)), [("get", 0), ("put", 0, 3), ("put", 0, 4)]
    memory = some_memory(pick, lots)
    return memory, deeds_for(pick, memory.registers)


class Whys(LinksCase):
    def test_why(self):
        """[282]: of all houses, awake or not, in random worlds; and what the next tick does to the tour."""
        pick, seen = random.Random(1), {}
        for _ in range(250):
            machine, deeds = machines(pick)
            world = World(machine)
            for _ in range(12):
                play(pick, world, 12, deeds, some_way(pick, machine.houses))
                for h in range(machine.houses):
                    told = why(world, h)
                    self.same(told, why_by(world, h))
                    key = (told[0], world.awake(h))
                    seen[key] = seen.get(key, 0) + 1
                    if world.awake(h):
                        self.check_tick(world.twin(), h, told)
        for word in ("idle", "card", "echo", "past"):
            self.assertGreater(min(seen.get((word, True), 0), seen.get((word, False), 0)), 5)

    def check_tick(self, world, h, told):
        ticks, running = world.ticks(h), world.state(h)[3]
        world.do(("tick", h))
        state = world.state(h)
        if told[0] == "card":
            self.assertTrue(any(tour[2] == ticks + 1 for tour in state[4] + ((state[3],) if state[3] else ())))
        if told[0] == "echo":
            tours = [tour for tour in state[4] + ((state[3],) if state[3] else ()) if tour[2] == running[2]]
            self.assertEqual(tours[0][4] is not None, any(lacking == () for _, lacking in told[1]))
        if told[0] == "past":
            ends = any(lacking == () or lacking == (h,) and told[1] <= ticks + 1 for _, lacking in told[2])
            self.assertEqual(any(tour[2] == running[2] for tour in state[4]), ends)

    def test_wrong_worlds(self):
        """NotTouring(), then BadHouse(house)."""
        lots = Lots(2, [[0]], [[0]])
        for machine in (Gossip(2), Moving([lots])):
            self.raises(NotTouring(), why, World(machine), None)
        for value in (2, -1) + NO_NUMBERS:
            self.raises(BadHouse(value), why, World(Memory(lots)), value)
        world = World(Memory(lots))
        world.do(("begin", 1, ("get", 0)))
        world.do(("fall", 1))
        self.same([why(world, 0), why(world, 1)], [("idle",), ("card",)])

    def test_sides(self):
        """The lots are those of the deed in progress."""
        world = World(Sided(Lots(2, [[1]], [[1]]), Lots(2, [[0, 1]], [[0]])))
        world.do(("begin", 0, ("get", 0)))
        world.do(("tick", 0))
        self.same(why(world, 0), ("echo", (((0, 1), (1,)),)))


class Fates(LinksCase):
    def test_fates(self):
        """[283]: what serves a house, and what lacks."""
        pick, seen = random.Random(2), {}
        for net, reach in some_nets(61, 200, 5):
            for lots in some_lots(pick.random(), 8, net.houses):
                if lots.houses != net.houses:
                    continue
                for house in net.alive:
                    part, past = reach.part(house), reach.past(house)
                    asked = tuple(lot for lot in lots.asked if set(lot) <= set(part))
                    heard = tuple(lot for lot in lots.heard if set(lot) <= set(past))
                    self.same(what_serves(lots, net, house), (asked, heard))
                    if asked and heard:
                        wanted = ("served", echo_time(lots, net, house), push_time(lots, net, house))
                    elif not asked:
                        wanted = ("asked", tuple((lot, tuple(x for x in lot if x not in part)) for lot in lots.asked))
                    else:
                        wanted = ("heard", tuple((lot, tuple(x for x in lot if x not in past)) for lot in lots.heard))
                    told = fate(lots, net, house)
                    self.same(told, wanted)
                    key = (told[0], bool(heard))
                    seen[key] = seen.get(key, 0) + 1
                    self.assertEqual(told[0] == "served", lots.serves(net, house))
        self.assertEqual(set(seen), {("served", True), ("asked", True), ("asked", False), ("heard", False)})

    def test_served_gets_are_answered(self):
        """[283], [186]: it is served exactly if a get of a Memory can be answered where the pattern is struck."""
        pick = random.Random(3)
        for net, reach in some_nets(62, 60, 4):
            lots = lots_for(pick, net.houses)
            for house in net.alive:
                world = struck(pick, Memory(lots), net.pattern)
                world.do(("begin", house, ("get", 0)))
                answered = any(h == house for _, h, _ in do_rounds(world, net, net.alive, 30))
                self.assertEqual(fate(lots, net, house)[0] == "served", answered)

    def test_errors(self):
        """OtherHouses(), then the house."""
        net = Net(3, Pattern([1]))
        for call in (fate, what_serves):
            self.raises(OtherHouses(), call, Lots.majority(2), net, None)
            for value in (3, -1) + NO_NUMBERS:
                self.raises(BadHouse(value), call, Lots.majority(3), net, value)
            self.raises(IsFallen(1), call, Lots.majority(3), net, 1)


if __name__ == "__main__":
    unittest.main()
