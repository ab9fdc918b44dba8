"""In how many rounds a memory answers: points [186] and [187], and silentlinks/exactly.py."""

import random
import unittest

from silentlinks.errors import BadHouse, IsFallen, NotAdmitted, OtherHouses
from silentlinks.exactly import rounds_told
from silentlinks.lots import Lots
from silentlinks.memory import Memory
from silentlinks.nets import Net
from silentlinks.numbering import deed_tours
from silentlinks.patterns import Pattern
from silentlinks.served import put_rounds, tour_rounds
from silentlinks.stretches import do_rounds
from silentlinks.worlds import World
from runs import loose_stretch, play, struck
from support import NO_NUMBERS, LinksCase
from test_timing import cases
from touring import deeds_for, some_memory


def some_deed(pick, machine, house):
    return pick.choice([deed for deed in deeds_for(pick, machine.registers) if machine.admits(house, deed)])


class Told(LinksCase):
    def test_words(self):
        seen = set()
        for pick, lots, net, plain in cases(187, 120):
            machine = some_memory(pick, lots)
            for b in net.alive:
                for deed in deeds_for(pick, machine.registers):
                    if not machine.admits(b, deed):
                        self.raises(NotAdmitted(b), rounds_told, machine, net, b, deed)
                        continue
                    free = deed[0] == "put" and machine.owners[deed[1]] is None
                    wanted = (put_rounds if free else tour_rounds)(lots, net, b)
                    seen.add((deed[0], free, wanted is None))
                    self.same(rounds_told(machine, net, b, deed), wanted)
        self.assertEqual(len(seen), 8)

    def test_wrong(self):
        machine, net = Memory(Lots(2, [[0]], [[0]]), owners=(None, 1)), Net(2, Pattern([1]))
        self.raises(OtherHouses(), rounds_told, machine, Net(3, Pattern()), 9, ())
        for house in (-1, 2) + NO_NUMBERS:
            self.raises(BadHouse(house), rounds_told, machine, net, house, ("tour", 1))
        self.raises(IsFallen(1), rounds_told, machine, net, 1, ("tour", 1))
        for deed in ((), ("tour", 1), ("get", 2), ("put", 1, 4), ("put", 0, True), ("propose", 1), ("look", 2)):
            self.raises(NotAdmitted(0), rounds_told, machine, net, 0, deed)
        # Also where None would be returned.
        self.raises(NotAdmitted(0), rounds_told, Memory(Lots(2, [[1]], [[1]])), net, 0, ("get", 1))


class InRounds(LinksCase):
    def test_exactly(self):
        """[187]: with any begins between rounds."""
        seen = {}
        for pick, lots, net, plain in cases(1871, 160, 4):
            machine = some_memory(pick, lots)
            world, begun = struck(pick, machine, net.pattern), {}
            ended = {}
            for t in range(1, 41):
                for h in net.alive:
                    if world.deed(h) is None and pick.random() < 0.4:
                        world.do(("begin", h, some_deed(pick, machine, h)))
                        begun[len(world.history()) - 1] = t
                # The deed that a house is answered is the last one that it began.
                for number, h, answer in do_rounds(world, net, net.alive, 1):
                    at = max(k for k, record in enumerate(world.history()) if record[0] == h)
                    ended[at] = t
            for at, (house, deed, _, end, _) in enumerate(world.history()):
                told = rounds_told(machine, net, house, deed)
                if told is None:
                    self.assertIsNone(end)
                    seen["never"] = seen.get("never", 0) + 1
                    continue
                tours = len(deed_tours(world, at))
                wanted = told if deed[0] == "put" else 1 + tours * (told - 1)
                if end is not None:
                    self.same(ended[at] - begun[at] + 1, wanted)
                    seen[deed[0], min(tours, 3)] = seen.get((deed[0], min(tours, 3)), 0) + 1
                else:
                    self.assertGreater(begun[at] + wanted - 1, 40)
        self.assertLessEqual({"never", ("put", 1), ("put", 2), ("get", 1), ("look", 1), ("look", 2)}, set(seen))

    def test_two_tours(self):
        """[187]: a get with two tours, looks with some that are not settled."""
        seen = set()
        for pick, lots, net, plain in cases(1872, 500, 4, True):
            machine = some_memory(pick, lots, 2)
            served = [b for b in net.alive if lots.serves(net, b)]
            if len(served) < 2:
                continue
            world = struck(pick, machine, net.pattern)
            p = pick.choice(served)
            begun, t = None, 0
            while t < 40 and not (begun and world.deed(p) is None):
                t += 1
                for h in served:
                    puts = [deed for deed in deeds_for(pick, machine.registers) if deed[0] == "put" and machine.admits(h, deed)]
                    if h != p and puts and world.deed(h) is None:
                        world.do(("begin", h, pick.choice(puts)))
                if begun is None and pick.random() < 0.2:
                    begun, at = t, len(world.history())
                    world.do(("begin", p, pick.choice([("look",), ("get", 0)])))
                do_rounds(world, net, net.alive, 1)
            if begun and world.deed(p) is None:
                deed, tours = world.history()[at][1], len(deed_tours(world, at))
                seen.add((deed[0], min(tours, 3)))
                self.same(t - begun, tours * (rounds_told(machine, net, p, deed) - 1))
        self.assertLessEqual({("get", 1), ("get", 2), ("look", 1), ("look", 2)}, seen)

    def test_alone(self):
        """[187]: if no other deed is begun, the deed is answered in the round told."""
        seen = set()
        for pick, lots, net, plain in cases(1873, 150, 5):
            machine = some_memory(pick, lots)
            for b in net.alive:
                deed = some_deed(pick, machine, b)
                told = rounds_told(machine, net, b, deed)
                world = struck(pick, machine, net.pattern)
                ahead = pick.randint(0, 4)
                do_rounds(world, net, net.alive, ahead)
                world.do(("begin", b, deed))
                found = [number for number, h, answer in do_rounds(world, net, net.alive, 25 if told is None else told + 3)]
                seen.add((deed[0], told is None))
                self.same(found, [] if told is None else [told])
        self.assertEqual(len(seen), 6)


class Served(LinksCase):
    def test_unserved(self):
        """[186]: no deed of a house that is not served is ever answered."""
        seen = 0
        for pick, lots, net, plain in cases(186, 150, 4):
            machine = some_memory(pick, lots)
            world = struck(pick, machine, net.pattern)
            for _ in range(200):
                word = pick.choice(("tick", "tick", "hand", "hand", "begin"))
                h, other = pick.randrange(lots.houses), pick.randrange(lots.houses)
                deed = pick.choice(deeds_for(pick, machine.registers))
                event = {"tick": ("tick", h), "begin": ("begin", h, deed), "hand": ("hand", h, world.ticks(h), other)}[word]
                if world.can(event):
                    world.do(event)
            for house, deed, begun, ended, answer in world.history():
                if not lots.serves(net, house):
                    seen += 1
                    self.assertIsNone(ended)
        self.assertGreater(seen, 50)

    def test_served(self):
        """[186]: from every world within the pattern each get and put ends in stretches that serve the past."""
        seen = 0
        for pick, lots, net, plain in cases(1861, 250, 4):
            served = [p for p in net.alive if lots.serves(net, p)]
            if not served:
                continue
            machine, p = some_memory(pick, lots), pick.choice(served)
            world = play(pick, World(machine), pick.randint(0, 80), deeds_for(pick, machine.registers), net.pattern)
            if not all(world.awake(x) for x in plain.past(p)):
                continue
            if world.deed(p) is None:
                world.do(("begin", p, some_deed(pick, machine, p)))
            for _ in range(120):
                loose_stretch(pick, world, net, plain.past(p))
                if world.deed(p) is None:
                    break
            seen += 1
            # A look ends, too, as no put is begun here.
            self.assertIsNone(world.deed(p))
        self.assertGreater(seen, 40)


if __name__ == "__main__":
    unittest.main()
