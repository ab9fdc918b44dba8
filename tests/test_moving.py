"""Points [260] to [265] and [267] to [269]: the machine Moving."""

import random
import unittest

from silentlinks.errors import BadNumber, BadRows
from silentlinks.lots import Lots
from silentlinks.machines import Machine
from silentlinks.moving import Moving, is_still
from silentlinks.nets import Net
from silentlinks.patterns import Pattern
from silentlinks.served import tour_rounds
from silentlinks.stretches import do_all, do_rounds
from silentlinks.tours import tours_in, tours_of
from silentlinks.worlds import World
from moves import PlainMoving, is_marked_at_most, move_deeds, moving_worlds, some_moving
from runs import struck, telling
from support import NO_NUMBERS, LinksCase, Reach, some_pattern

ONE = Lots(2, [[0]], [[0]])
TWO = Lots(2, [[1]], [[1]])


def logs_of(world):
    return [(house, tour) for house in range(world.houses) for tour in world.state(house)[4]]


def valid_of(world):
    return [tour for _, tour in logs_of(world) if tour[7] == "valid"]


def cards_of(world):
    for house in range(world.houses):
        for number in range(world.ticks(house)):
            yield house, world.sheet(house, number + 1)[0][house]


def tick_times(world, house):
    return [time for time, event in enumerate(world) if event == ("tick", house)]


class Machines(LinksCase):
    def test_made(self):
        self.assertTrue(issubclass(Moving, Machine))
        for name in ("admits", "fresh", "begin", "hear", "tick"):
            self.assertIn(name, vars(Moving))
        rows = [ONE, TWO]
        machine = Moving(rows, registers=3)
        rows.pop()
        self.same([machine.houses, len(machine.rows), machine.registers, Moving((ONE,)).registers], [2, 2, 3, 1])
        self.assertIs(type(machine.rows), tuple)
        self.assertTrue(machine.rows[1] == TWO)
        self.same(Moving([Lots(2, [[0]], [[1]])]).rows[0].crossing, False)

    def test_rows(self):
        """BadRows(-1), BadRows(at), then the registers."""
        for rows in (None, 3, (), [], ONE, "lots", [ONE] * 5, {0: ONE}):
            self.raises(BadRows(-1), Moving, rows, registers=None)
        for rows, at in (([None], 0), ([ONE, TWO, 5], 2), ([ONE, Lots(3, [[0]], [[0]]), None], 1), ([[ONE]], 0), ((Lots,), 0)):
            self.raises(BadRows(at), Moving, rows, registers=None)
        for value in (0, 9, -1) + NO_NUMBERS:
            self.raises(BadNumber("registers"), Moving, [ONE] * 4, registers=value)
        self.same(Moving([ONE] * 4, registers=8).registers, 8)

    def test_admits(self):
        machine = Moving([ONE, TWO, ONE], registers=2)
        good = [("get", 0), ("get", 1), ("put", 1, -5), ("move", 1), ("move", 2)]
        wrong = [(), ("get", 2), ("get", -1), ("put", 2, 1), ("put", 0), ("move", 0), ("move", 3), ("move", -1), ("look",),
                 ("tour", 1), ("propose", 1), ("move",), ("move", 1, 1)]
        for value in NO_NUMBERS:
            wrong += [("get", value), ("put", value, 1), ("put", 0, value), ("move", value)]
        for me in (0, 1):
            self.assertTrue(all(machine.admits(me, deed) is True for deed in good))
            self.assertTrue(all(machine.admits(me, deed) is False for deed in wrong))
        self.same(Moving([ONE]).admits(0, ("move", 1)), False)

    def test_states(self):
        """[260] to [263]: the states of random runs are those of a plain reading, with lots that cross and others."""
        verdicts, broken = {}, 0
        for crossing in (True, False):
            for world in moving_worlds(31 + crossing, 90, 600, crossing):
                other = World(PlainMoving(world.machine))
                do_all(other, list(world))
                self.assertEqual(telling(other), telling(world))
                for _, tour in logs_of(world):
                    verdicts[tour[7]] = verdicts.get(tour[7], 0) + 1
                broken += broken_off(world)
        self.assertEqual(set(verdicts), {"valid", "closing", "again"})
        self.assertGreater(min(verdicts.values()), 10)
        self.assertGreater(broken, 20)

    def test_tours(self):
        """tours_of and tours_in take states and worlds of a Moving."""
        for world in moving_worlds(33, 10, 300):
            rows = []
            for house in range(world.houses):
                state = world.state(house)
                wanted = state[4] + (() if state[3] is None else (state[3],))
                self.same(tours_of(state), wanted)
                rows += [(house, tour) for tour in wanted]
            self.same(tours_in(world), rows)

    def test_broken_off(self):
        """A tour broken off begins anew in the same tick, with the lots that are open by then."""
        world = World(Moving([Lots(3, [[0, 1]], [[0, 1]]), Lots(3, [[2]], [[2]])]))
        do_all(world, [("begin", 0, ("get", 0)), ("tick", 0), ("begin", 1, ("move", 1)), ("tick", 1), ("hand", 0, 1, 1)])
        self.same(world.state(0)[3][:3], (0, 0, 1))
        do_all(world, [("hand", 1, 1, 0), ("tick", 0), ("hand", 0, 2, 1), ("tick", 1), ("hand", 1, 2, 2), ("tick", 2)])
        self.same(world.state(1)[4][0][7], "closing")
        # House 0 has not ended its tour of lots 0; the sheet in which lots 1 are open breaks it off.
        self.same([world.do(("tick", 1)), world.state(1)[0][1][2][1], world.state(0)[3][:3]], [None, 1, (0, 0, 1)])
        do_all(world, [("hand", 1, 3, 0), ("tick", 0)])
        state = world.state(0)
        self.same([state[3][:3], state[3][3][1], state[4], len(tours_of(state))], [(0, 1, 3), 1, (), 1])

    def test_numbers(self):
        """[261]: the NUMBER counts the stamps in PUT that begin with the tour's lots, and no others."""
        world = World(Moving([Lots(2, [[0], [1]], [[0], [1]])]))
        do_all(world, [("tick", 0)] * 10 + [("begin", 0, ("put", 0, 5)), ("tick", 0), ("tick", 0), ("hand", 0, 12, 1)])
        do_all(world, [("begin", 1, ("get", 0)), ("tick", 1)])
        tour = world.state(1)[4][0]
        self.same([tour[1], tour[2], tour[3][0], tour[4]], [0, 1, ((0, 12, 0, 5),), 12])
        world = World(Moving([Lots(3, [[0]], [[0]]), Lots(3, [[2]], [[2]])]))
        do_all(world, [("tick", 0)] * 10 + [("begin", 0, ("put", 0, 5)), ("tick", 0), ("tick", 0)])
        do_all(world, [("begin", 0, ("move", 1)), ("tick", 0), ("tick", 0), ("hand", 0, 14, 2)])
        self.same(do_all(world, [("begin", 2, ("get", 0)), ("tick", 2)]), [(18, 2, 5)])
        tour = world.state(2)[4][0]
        self.same([tour[1], tour[2], tour[3][0], tour[4]], [1, 1, ((0, 12, 0, 5),), 1])

    def test_owners(self):
        """[263]: of two stamps of one number the one with the greater owner is greater; a get then needs two tours."""
        put, other = ((0, 3, 1, 7),), ((0, 3, 2, 8),)
        for first, result, wanted in ((put, other, False), (put, put, True), (other, put, True)):
            self.same(is_still((0, 0, 1, (first, 0, -1), 3, 4, (result, 0, -1), "valid"), 0), wanted)

    def test_closing_tour(self):
        """A move whose closing tour ended opens the next lots with its next card; a move to lots that are open is a tour."""
        world = World(Moving([Lots(1, [[0]], [[0]])] * 3))
        self.same(do_all(world, [("begin", 0, ("move", 2)), ("tick", 0)]), [])
        tour = world.state(0)[4][0]
        self.same(tour, (0, 0, 1, (((0, 0, -1, 0),), 0, 0), 1, 1, (((0, 0, -1, 0),), 0, 0), "closing"))
        self.same([world.do(("tick", 0)), world.state(0)[4][1][7], world.do(("tick", 0))], [None, "closing", 2])
        self.same(world.state(0)[0][0][2][1:], (2, 1))
        world.do(("begin", 0, ("move", 1)))
        self.same([world.do(("tick", 0)), world.state(0)[0][0][2][1:], world.state(0)[4][-1][7]], [1, (2, 1), "valid"])

    def test_unlike_halves(self):
        """Lots for unlike halves: a memory that moves from one half to the other keeps what was put."""
        machine = Moving([Lots(4, [[0, 1]], [[0, 1]]), Lots(4, [[2, 3]], [[2, 3]])])
        world = World(machine)
        calm = Net(4, Pattern())
        world.do(("begin", 0, ("put", 0, 7)))
        do_rounds(world, calm, calm.alive, 8)
        world.do(("begin", 1, ("move", 1)))
        do_rounds(world, calm, calm.alive, 12)
        self.same([record[4] for record in world.history()], [7, 1])
        do_all(world, [("fall", 0), ("fall", 1), ("begin", 2, ("get", 0))])
        late = Net(4, Pattern([0, 1]))
        self.same([answer for _, _, answer in do_rounds(world, late, late.alive, 8)], [7])


def broken_off(world):
    """How many tours were begun that stand nowhere."""
    many = 0
    for house in range(world.houses):
        begun = {world.sheet(house, k + 1)[3][2] for k in range(world.ticks(house)) if world.sheet(house, k + 1)[3]}
        told = {tour[2] for tour in tours_of(world.state(house))}
        many += len(begun - told)
    return many


class Moves(LinksCase):
    def test_valid_tours(self):
        """[264]"""
        pairs = 0
        for world in moving_worlds(41, 120, 900):
            times = [tick_times(world, house) for house in range(world.houses)]
            rows = [(house, tour) for house, tour in logs_of(world) if tour[7] == "valid"]
            for h, a in rows:
                for k, b in rows:
                    first, later = (a[1], a[4]), (b[1], b[4])
                    pairs += first != later
                    if first <= later:
                        self.assertTrue(is_marked_at_most(a[3], b[6]))
                    if a[1] < b[1]:
                        self.assertTrue(is_marked_at_most(a[3], b[3]))
                    if times[h][a[5] - 1] < times[k][b[2] - 1]:
                        self.assertLess(first, later)
        self.assertGreater(pairs, 1000)

    def test_closing(self):
        """[265]"""
        many = 0
        for world in moving_worlds(42, 150, 900):
            closing = [tour for _, tour in logs_of(world) if tour[7] == "closing"]
            for c in closing:
                for tour in valid_of(world):
                    if tour[1] == c[1]:
                        many += 1
                        self.assertLess(tour[4], c[4])
                        self.assertTrue(is_marked_at_most(tour[3], c[6]))
            for _, card in cards_of(world):
                for e in range(card[2][1]):
                    told = [c for c in closing if c[1] == e]
                    self.assertTrue(any(is_marked_at_most(c[6], card[2]) for c in told))
        self.assertGreater(many, 100)

    def test_moves(self):
        """[267]"""
        many = 0
        for world in moving_worlds(43, 150, 900):
            for house, deed, begun, ended, answer in world.history():
                if deed[0] != "move" or ended is None:
                    continue
                many += 1
                made = tick_times(world, house).index(ended) + 1
                self.assertGreaterEqual(world.sheet(house, made)[0][house][2][1], answer)
                self.same(answer, deed[1])
                for other, tour in logs_of(world):
                    if tour[7] == "valid" and tick_times(world, other)[tour[2] - 1] > ended:
                        self.assertGreaterEqual(tour[1], answer)
        self.assertGreater(many, 100)

    def test_last_lots(self):
        """[268]: in rounds, once a house that reaches p has the last lots open, a deed of p ends in n - 1 + 2t rounds."""
        pick, many = random.Random(44), 0
        for _ in range(250):
            houses = pick.randint(1, 4)
            machine = some_moving(pick, houses)
            pattern = some_pattern(pick, houses)
            net, reach = Net(houses, pattern), Reach(houses, pattern)
            world = struck(pick, machine, pattern)
            for number in range(50):
                for house in net.alive:
                    if world.deed(house) is None and pick.random() < 0.5:
                        world.do(("begin", house, pick.choice(move_deeds(pick, machine))))
                do_rounds(world, net, net.alive, 1)
                if number % 10 == 9:
                    many += self.check_last(pick, world, net, reach)
        self.assertGreater(many, 150)

    def check_last(self, pick, world, net, reach):
        machine = world.machine
        last, many = machine.rows[-1], 0
        for p in net.alive:
            deed = world.deed(p)
            opened = [x for x in reach.past(p) if world.state(x)[0][x][2][1] == len(machine.rows) - 1]
            if opened and deed is not None and deed[0] != "move" and last.serves(net, p):
                twin = world.twin()
                limit = net.houses - 1 + 2 * tour_rounds(last, net, p)
                for _ in range(limit):
                    for x in net.alive:
                        if x != p and twin.deed(x) is None and pick.random() < 0.2:
                            twin.do(("begin", x, pick.choice(move_deeds(pick, machine))))
                    do_rounds(twin, net, net.alive, 1)
                records = [record for record in twin.history() if record[0] == p]
                self.assertIsNot(records[-1][3], None)
                many += 1
        return many

    def test_ends(self):
        """[269]: how many tours a deed has in the log; tours of the last lots, and all tours of one row, are valid."""
        for crossing in (True, False):
            for world in moving_worlds(45 + crossing, 120, 900, crossing):
                k = len(world.machine.rows)
                turns = {}
                for record in world.history():
                    turns.setdefault(record[0], []).append(record)
                for house, records in turns.items():
                    for turn, record in enumerate(records):
                        told = [tour for tour in world.state(house)[4] if tour[0] == turn]
                        self.assertLessEqual(len(told), 2 * k - 1 if record[1][0] == "move" else 2 * k)
                for _, tour in logs_of(world):
                    if tour[1] == k - 1:
                        self.assertEqual(tour[7], "valid")

    def test_ends_in_rounds(self):
        """[269]: in rounds, if each of the k Lots serves p: a get or put in 2kt rounds, a move in (2k - 1)t."""
        pick, many = random.Random(47), 0
        for crossing in (True, False):
            for _ in range(200):
                houses = pick.randint(1, 4)
                machine = some_moving(pick, houses, crossing)
                pattern = some_pattern(pick, houses)
                net = Net(houses, pattern)
                k = len(machine.rows)
                world = struck(pick, machine, pattern)
                begun, limits = {}, {}
                for house in net.alive:
                    if all(lots.serves(net, house) for lots in machine.rows):
                        limits[house] = max(tour_rounds(lots, net, house) for lots in machine.rows)
                for number in range(60):
                    for house in net.alive:
                        if world.deed(house) is None and pick.random() < 0.4:
                            world.do(("begin", house, pick.choice(move_deeds(pick, machine))))
                            begun[house] = number
                    ahead = {house: world.deed(house) for house in net.alive}
                    answered = {house for _, house, _ in do_rounds(world, net, net.alive, 1)}
                    for house, t in limits.items():
                        if ahead[house] is not None:
                            limit = (2 * k - 1) * t if ahead[house][0] == "move" else 2 * k * t
                            self.assertLessEqual(number - begun[house] + 1, limit)
                            many += house in answered
        self.assertGreater(many, 500)


if __name__ == "__main__":
    unittest.main()
