"""The memory: points [180] to [185], and silentlinks/memory.py and numbering.py."""

import random
import unittest

from silentlinks.errors import BadLots, BadOwner, NoDeed
from silentlinks.lots import Lots
from silentlinks.memory import Memory
from silentlinks.numbering import deed_tours, least_number, order_by_numbers, place_numbers, stamp_told
from silentlinks.stretches import do_all
from silentlinks.tours import Touring, tours_in, tours_of
from silentlinks.worlds import World, run
from runs import telling
from support import NO_NUMBERS, LinksCase
from test_tours import NO_LOTS
from touring import is_order, is_tour_at_most, played, worlds

PAIR = Lots(2, [[0], [1]], [[0, 1]])


def whole(put, result, number=3):
    return (0, False, 1, put, number, 2, result)


class Machines(LinksCase):
    def test_made(self):
        self.assertTrue(issubclass(Memory, Touring))
        for name in ("admits", "plan"):
            self.assertIn(name, vars(Memory))
        owners = [None, 1, 0]
        machine = Memory(PAIR, owners=owners)
        owners[0] = 1
        self.same([machine.houses, machine.owners, machine.registers], [2, (None, 1, 0), 3])
        self.assertTrue(machine.lots == PAIR)
        self.same([Memory(PAIR).owners, Memory(PAIR).registers, Memory(PAIR).fresh(0)[0][0][2]], [(None,), 1, ((0, -1, 0),)])
        self.same(Memory(PAIR, owners=(None,) * 8).registers, 8)

    def test_wrong(self):
        for value in NO_LOTS:
            self.raises(BadLots("asked", -1), Memory, value)
            self.raises(BadLots("asked", -1), Memory, value, owners=())
        for owners in (None, 5, "0", {0: 0}, {0}, (), [], (None,) * 9, [0] * 9):
            self.raises(BadOwner(-1), Memory, PAIR, owners=owners)
        for value in (2, -1) + tuple(x for x in NO_NUMBERS if x is not None):
            self.raises(BadOwner(1), Memory, PAIR, owners=(None, value, 9))
        with self.assertRaises(TypeError):
            Memory(PAIR, (None,))

    def test_admits(self):
        machine = Memory(PAIR, owners=(None, 0))
        for me in (0, 1):
            for deed in (("look",), ("get", 0), ("get", 1), ("put", 0, 5), ("put", 0, -10 ** 29)):
                self.assertIs(machine.admits(me, deed), True)
            self.assertIs(machine.admits(me, ("put", 1, 3)), me == 0)
            wrong = [(), ("look", 1), ("get",), ("get", 2), ("get", -1), ("get", 0, 0), ("put", 0), ("put", 2, 1), ("put", -1, 1),
                     ("put", 0, 1, 2), ("tour", 1), ("propose", 1), ("move", 1), (["look"],), (None,), ("Look",)]
            wrong += [("get", x) for x in NO_NUMBERS] + [("put", x, 1) for x in NO_NUMBERS] + [("put", 0, x) for x in NO_NUMBERS]
            for deed in wrong:
                self.assertIs(machine.admits(me, deed), False)

    def test_plan(self):
        """[180]"""
        machine = Memory(PAIR, owners=(None, 0))
        low, high, other = ((1, 0, 5), (0, -1, 0)), ((2, 1, 6), (0, -1, 0)), ((1, 0, 5), (1, 0, 7))
        get, free, owned, look = ("get", 0), ("put", 0, 9), ("put", 1, 8), ("look",)
        half = (0, True, 1, low, 7, 2, None)
        rows = [
            (get, (), ("whole", None)), (get, (whole(low, low),), ("answer", 5)), (get, (whole(low, high),), ("whole", None)),
            (get, (whole(low, other),), ("answer", 5)), (("get", 1), (whole(low, other),), ("whole", None)),
            (get, (whole(low, high), whole(high, high)), ("answer", 6)), (get, (whole(low, high), whole(low, high)), ("answer", 5)),
            (free, (), ("half", None)), (free, (half,), ("whole", (0, (8, 1, 9)))), (free, (half, whole(low, low)), ("answer", 9)),
            (owned, (), ("whole", (1, (5, 1, 8)))), (owned, (whole(low, high),), ("answer", 8)),
            (look, (), ("whole", None)), (look, (whole(low, high),), ("whole", None)), (look, (whole(low, other),), ("whole", None)),
            (look, (whole(low, high), whole(other, other)), ("answer", (5, 7))), (look, (whole(high, low),), ("answer", (6, 0))),
        ]
        for deed, done, wanted in rows:
            self.same(machine.plan(1, 4, deed, done), wanted)

    def test_one_house(self):
        world = World(Memory(Lots(1, [[0]], [[0]]), owners=(None, 0)))
        told = do_all(world, [("begin", 0, ("put", 0, 4)), ("tick", 0), ("tick", 0), ("begin", 0, ("put", 1, 5)), ("tick", 0),
                              ("begin", 0, ("look",)), ("tick", 0), ("begin", 0, ("get", 1)), ("tick", 0)])
        # The half tour is done in the tick of its card, and the whole one begins with the next card.
        self.same(told, [(2, 0, 4), (4, 0, 5), (6, 0, (4, 5)), (8, 0, 5)])
        self.same([stamp_told(world, at) for at in range(4)], [(2, 0), (2, 0), None, (2, 0)])
        self.same(order_by_numbers(world), (0, 1, 2, 3))

    def test_a_look_while_puts_go_on(self):
        """[180]: a look needs a further tour for a put that comes in between."""
        world = World(Memory(Lots(2, [[0], [1]], [[0, 1]]), owners=(0, 1)))
        do_all(world, [("begin", 1, ("look",)), ("begin", 0, ("put", 0, 5)), ("tick", 0), ("tick", 1), ("hand", 0, 1, 1)])
        self.assertIsNone(world.do(("tick", 1)))
        tours = deed_tours(world, 0)
        self.same([len(tours), tours[0][3], tours[0][6]], [2, ((0, -1, 0),) * 2, ((1, 0, 5), (0, -1, 0))])
        do_all(world, [("tick", 0), ("hand", 0, 2, 1)])
        self.same([world.do(("tick", 1)), world.deed(0)], [(5, 0), ("put", 0, 5)])
        # The put has not ended, but the look's tour has put its stamp, so that it stands ahead of the look.
        self.same([world.history()[1][3], place_numbers(world), order_by_numbers(world)], [None, (2, 2), (1, 0)])

    def test_halves(self):
        """[180], [12]: a half tour is done with its echo; its result stays None."""
        for world in worlds(180, 25):
            for at, (house, deed, begun, ended, answer) in enumerate(world.history()):
                for tour in deed_tours(world, at):
                    self.assertIs(tour[1], deed[0] == "put" and world.machine.owners[deed[1]] is None and tour == deed_tours(world, at)[0])
                    if tour[1]:
                        self.assertIsNone(tour[6])
                        self.assertIs(tour[4] is None, tour[5] is None)
                    else:
                        self.assertIs(tour[6] is None, tour[5] is None)


class Numbering(LinksCase):
    def test_no_deed(self):
        world = run(Memory(PAIR), [("begin", 0, ("get", 0)), ("begin", 1, ("look",))])
        for call in (deed_tours, stamp_told):
            for at in (2, -1) + NO_NUMBERS:
                self.raises(NoDeed(at), call, world, at)
        self.same([deed_tours(world, 1), stamp_told(world, 0)], [(), None])
        fresh = World(Memory(PAIR))
        self.raises(NoDeed(0), deed_tours, fresh, 0)
        self.same([place_numbers(fresh), order_by_numbers(fresh), least_number(fresh, 0, (0, -1))], [(), (), 0])

    def test_tours_and_stamps(self):
        """[13], numbering.py"""
        seen = set()
        for world in worlds(13, 60):
            history, counts = world.history(), {}
            for at, (house, deed, begun, ended, answer) in enumerate(history):
                turn = counts[house] = counts.get(house, -1) + 1
                tours = tuple(tour for tour in tours_of(world.state(house)) if tour[0] == turn)
                self.same(deed_tours(world, at), tours)
                wanted = None
                if deed[0] == "get" and ended is not None:
                    wanted = tours[-1][3][deed[1]][:2]
                    self.same(tours[-1][3][deed[1]][2], answer)
                elif deed[0] == "put" and world.machine.owners[deed[1]] is not None:
                    wanted = (turn + 1, house) if tours else None
                elif deed[0] == "put":
                    wanted = (tours[0][4] + 1, house) if len(tours) == 2 else None
                seen.add((deed[0], ended is None, wanted is None))
                self.same(stamp_told(world, at), wanted)
        self.assertLessEqual({("put", True, True), ("put", True, False), ("put", False, False), ("get", False, False),
                              ("get", True, True), ("look", False, True)}, seen)

    def test_stamp_that_is_not_the_greatest(self):
        """stamp_told: told even where the card's store has a greater one."""
        found = 0
        for world in worlds(131, 150):
            for at, record in enumerate(world.history()):
                tours = deed_tours(world, at)
                if record[1][0] == "put" and stamp_told(world, at) is not None:
                    found += tours[-1][3][record[1][1]][:2] > stamp_told(world, at)
        self.assertGreater(found, 0)

    def test_numbers(self):
        """[13], [182]: word by word."""
        seen = set()
        for world in worlds(182, 70):
            history = world.history()
            ended = [tour for _, tour in tours_in(world) if tour[6] is not None]

            def m(stamp, x):
                fits = [tour[4] for tour in ended if tour[3][x][:2] >= stamp]
                return 0 if stamp == (0, -1) else min(fits) if fits else None
            stands, rank = [], {}
            for at, (house, deed, begun, end, answer) in enumerate(history):
                tours, stamp, number = deed_tours(world, at), stamp_told(world, at), None
                if deed[0] == "put" and stamp is not None:
                    number = m(stamp, deed[1])
                    rank[at] = (number, 0, deed[1], stamp, 0, at)
                if deed[0] == "get" and end is not None:
                    number = max(tours[0][4], m(stamp, deed[1]))
                    first = number == m(stamp, deed[1])
                    seen.add(first)
                    rank[at] = (number, 0, deed[1], stamp, 1, at) if first else (number, 1, at)
                if deed[0] == "look" and end is not None:
                    number = tours[-1][4]
                    rank[at] = (number, 1, at)
                if stamp is not None:
                    self.same(least_number(world, deed[1], stamp), m(stamp, deed[1]))
                    self.same(least_number(world, deed[1], (0, -1)), 0)
                stands.append(number)
            self.same(place_numbers(world), tuple(stands))
            placed = [at for at, number in enumerate(stands) if number is not None]
            self.same(order_by_numbers(world), tuple(sorted(placed, key=lambda at: rank[at])))
        self.assertEqual(len(seen), 2)


    def test_at_one_number(self):
        """[182]: by register, then by stamp, a put before its gets; then all others."""
        world = World(Memory(Lots(3, [[2]], [[2]]), owners=(1, 0)))
        do_all(world, [("begin", 0, ("put", 1, 7)), ("begin", 1, ("put", 0, 8)), ("begin", 2, ("look",)), ("tick", 0), ("tick", 1),
                       ("hand", 0, 1, 2), ("hand", 1, 1, 2), ("tick", 2)])
        self.same([stamp_told(world, 0), stamp_told(world, 1)], [(1, 0), (1, 1)])
        self.same([place_numbers(world), order_by_numbers(world)], [(1, 1, 1), (1, 0, 2)])
        world = World(Memory(Lots(3, [[2]], [[2]]), owners=(1, 0)))
        do_all(world, [("begin", 2, ("get", 0)), ("begin", 0, ("put", 1, 7)), ("begin", 1, ("put", 0, 8)), ("tick", 0), ("tick", 1),
                       ("hand", 0, 1, 2), ("hand", 1, 1, 2), ("tick", 2)])
        self.same([place_numbers(world), order_by_numbers(world)], [(1, 1, 1), (2, 0, 1)])


class Facts(LinksCase):
    def test_one_order(self):
        """[181]"""
        deeds = 0
        for world in worlds(181, 150):
            history = world.history()
            deeds += sum(record[3] is not None for record in history)
            self.assertTrue(is_order(history, order_by_numbers(world), world.machine.registers))
        self.assertGreater(deeds, 1000)

    def test_eight_registers(self):
        """[181]: eight registers, owned and free ones."""
        pick = random.Random(8)
        for owners in ((None,) * 8, (0, 1, 2, None, None, 0, 0, 1)):
            world = played(pick, Memory(Lots.majority(3), owners=owners), 900)
            self.assertTrue(is_order(world.history(), order_by_numbers(world), 8))

    def test_stamps(self):
        """[183]"""
        for world in worlds(183, 60):
            history = world.history()
            stamps = {}
            for at, (house, deed, begun, ended, answer) in enumerate(history):
                if stamp_told(world, at) is not None:
                    stamps[at] = (deed[0], deed[1], stamp_told(world, at))
            made = [told[1:] for told in stamps.values() if told[0] == "put"]
            self.assertEqual(len(made), len(set(made)))
            for early, one in enumerate(history):
                for late, other in enumerate(history):
                    if one[3] is None or one[3] >= other[2] or late not in stamps:
                        continue
                    word, x, stamp = stamps[late]
                    if early in stamps and stamps[early][1] == x:
                        known = stamps[early][2]
                    elif one[1] == ("look",):
                        known = deed_tours(world, early)[-1][3][x][:2]
                    else:
                        continue
                    if word == "put":
                        self.assertGreater(stamp, known)
                    else:
                        self.assertGreaterEqual(stamp, known)

    def test_tours(self):
        """[184]"""
        longest = 0
        for world in worlds(184, 80):
            history = world.history()
            for at, (house, deed, begun, ended, answer) in enumerate(history):
                if ended is None:
                    continue
                tours = deed_tours(world, at)
                if deed[0] == "get":
                    self.assertIn([tour[1] for tour in tours], ([False], [False, False]))
                elif deed[0] == "put":
                    free = world.machine.owners[deed[1]] is None
                    self.assertEqual([tour[1] for tour in tours], [True, False] if free else [False])
                else:
                    longest = max(longest, len(tours))
                    puts = 0
                    for late, other in enumerate(history):
                        stamp = stamp_told(world, late)
                        if other[1][0] == "put" and other[2] < ended and stamp is not None:
                            puts += stamp > tours[0][3][other[1][1]][:2]
                    self.assertLessEqual(len(tours), puts + 1)
        self.assertGreater(longest, 2)

    def test_looks(self):
        """[185]"""
        pairs = 0
        for world in worlds(185, 80):
            history = world.history()
            ended = [(at, record) for at, record in enumerate(history) if record[3] is not None]
            looks = [(at, record, deed_tours(world, at)[-1]) for at, record in ended if record[1] == ("look",)]
            for at, one, a in looks:
                for later, other, b in looks:
                    self.assertTrue(is_tour_at_most(a[3], b[3]) or is_tour_at_most(b[3], a[3]))
                    if one[3] < other[2]:
                        self.assertTrue(is_tour_at_most(a[3], b[3]))
                for get, record in ended:
                    if record[1][0] == "get":
                        pairs += 1
                        x, tours = record[1][1], deed_tours(world, get)
                        if a[4] <= tours[0][4]:
                            self.assertGreaterEqual(stamp_told(world, get), a[3][x][:2])
                        if tours[-1][4] <= a[4]:
                            self.assertLessEqual(stamp_told(world, get), a[3][x][:2])
        self.assertGreater(pairs, 500)

    def test_nothing_is_changed(self):
        """[1]"""
        world = next(worlds(1, 1))
        before = telling(world)
        place_numbers(world), order_by_numbers(world), least_number(world, 0, (1, 0))
        tours_in(world).clear()
        self.same(telling(world), before)


if __name__ == "__main__":
    unittest.main()
