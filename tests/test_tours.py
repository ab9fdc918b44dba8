"""Touring machines: points [161] to [165] and [169], and silentlinks/tours.py."""

import random
import unittest

from silentlinks.boards import blank_board, known_store
from silentlinks.errors import BadLots, NoTick
from silentlinks.lots import Lots
from silentlinks.machines import Machine
from silentlinks.sided import Sided
from silentlinks.stores import joined
from silentlinks.stretches import do_all
from silentlinks.tours import Touring, tick_time, tours_in, tours_of
from silentlinks.views import past_times
from silentlinks.worlds import World, run
from runs import TOURS, loose_stretch, play, some_nets, telling
from support import NO_NUMBERS, LinksCase, crossing_lots, some_lots
from touring import Plain, all_tours, deeds_for, is_tour_at_most, memories, some_way, worlds

NO_LOTS = (None, 3, (), Lots, [[0]], "lots")


class Machines(LinksCase):
    def test_made(self):
        self.assertTrue(issubclass(Touring, Machine))
        for name in ("admits", "lots_for", "plan", "fresh", "begin", "hear", "tick"):
            self.assertIn(name, vars(Touring))
        lots = Lots(3, [[0]], [[1, 2]])
        machine = Touring(lots)
        self.assertTrue(machine.lots == lots and machine.lots_for(("tour", 1)) == lots)
        self.same([machine.houses, machine.registers], [3, 3])
        for value in NO_LOTS:
            self.raises(BadLots("asked", -1), Touring, value)

    def test_admits(self):
        machine = Touring(Lots(2, [[0]], [[0]]))
        for v in (0, -5, 10 ** 29):
            self.assertIs(machine.admits(1, ("tour", v)), True)
        for deed in [(), ("tour",), ("tour", 1, 2), ("get", 0), ("look",), (["tour"], 1)] + [("tour", v) for v in NO_NUMBERS]:
            self.assertIs(machine.admits(0, deed), False)

    def test_plan(self):
        machine = Touring(Lots(2, [[0]], [[0]]))
        self.same(machine.plan(1, 4, ("tour", 7), ()), ("whole", (1, (5, 1, 7))))
        self.same(machine.plan(1, 4, ("tour", 7), ((4, False, 1, (), 1, 1, ()),)), ("answer", 7))

    def test_first_state(self):
        """[161]"""
        for houses in (1, 3, 7):
            machine = Touring(Lots(houses, [[0]], [[0]]))
            for me in range(houses):
                self.same(machine.fresh(me), (blank_board(houses, houses), None, -1, None, ()))

    def test_ticks(self):
        """[12], [161]: the states of random runs are those of a plain reading."""
        pick = random.Random(161)
        answers = 0
        machines = [machine for _, machine in memories(161, 40)] + [machine for _, machine in memories(162, 30, 4, False)]
        machines += [Touring(lots) for lots in some_lots(163, 30, 4)]
        rows = list(some_lots(164, 60, 3))
        machines += [Sided(a, b) for a in rows for b in rows[::7] if a.houses == b.houses][:30]
        for machine in machines:
            deeds = TOURS + [("get", 0), ("put", 0, 4)] + deeds_for(pick, machine.registers)
            world = play(pick, World(machine), 200, deeds, some_way(pick, machine.houses))
            self.same(telling(run(Plain(machine), list(world))), telling(world))
            answers += sum(r[3] is not None for r in world.history())
        self.assertGreater(answers, 300)

    def test_begin_and_hear(self):
        """[161]: a begin changes deed and turn alone, hearing the board alone."""
        world = play(random.Random(4), World(Touring(Lots(3, [[0, 1]], [[1, 2]]))), 60, TOURS)
        machine = world.machine
        for h in range(3):
            state = world.state(h)
            got = machine.begin(state, h, ("tour", 8))
            self.same(got, (state[0], ("tour", 8), state[2] + 1, state[3], state[4]))
            sheet = world.state((h + 1) % 3)
            self.same(machine.hear(state, h, 0, sheet)[1:], state[1:])

    def test_answer_in_the_first_look(self):
        """[161]: a deed answered in the first look begins no tour with the card of that tick."""
        # House 0 asks itself and 1, and hears 1.
        world = World(Touring(Lots(2, [[0, 1]], [[1]])))
        do_all(world, [("begin", 0, ("tour", 5)), ("tick", 0), ("hand", 0, 1, 1), ("tick", 1), ("hand", 1, 1, 0)])
        self.same([world.do(("tick", 0)), world.state(0)[3], world.state(0)[1]], [5, None, None])
        self.same(tours_of(world.state(0))[0][2:6], (1, ((1, 0, 5), (0, -1, 0)), 1, 2))
        # The next deed's tour begins with the next card.
        world.do(("begin", 0, ("tour", 6)))
        self.assertIsNone(world.do(("tick", 0)))
        self.same(world.state(0)[3][:3], (1, False, 3))

    def test_echoed_in_the_tick_of_its_card(self):
        """A first asked lot with which the tour is echoed in the tick of its own card."""
        world = World(Touring(Lots(2, [[0], [0, 1]], [[0]])))
        self.same([world.do(("begin", 0, ("tour", 5))), world.do(("tick", 0)), world.history()], [None, 5, ((0, ("tour", 5), 0, 1, 5),)])
        self.same(tours_in(world), [(0, (0, False, 1, ((1, 0, 5), (0, -1, 0)), 1, 1, ((1, 0, 5), (0, -1, 0))))])
        # In 1, which no asked lot has alone, it is echoed behind a sheet of 0.
        do_all(world, [("begin", 1, ("tour", 6)), ("tick", 1), ("hand", 1, 1, 0), ("tick", 0), ("hand", 0, 2, 1)])
        self.same([world.do(("tick", 1)), world.state(1)[4][0][4:6]], [6, (2, 2)])

    def test_one_house(self):
        world = World(Touring(Lots(1, [[0]], [[0]])))
        self.same([world.do(("begin", 0, ("tour", 9))), world.do(("tick", 0)), world.do(("tick", 0)), world.state(0)],
                  [None, 9, None, (((2, (2,), ((1, 0, 9),)),), None, 0, None, ((0, False, 1, ((1, 0, 9),), 1, 1, ((1, 0, 9),)),))])

    def test_tours_of_worlds(self):
        for world in worlds(165, 30):
            wanted = []
            for h in range(world.houses):
                state = world.state(h)
                tours = state[4] if state[3] is None else state[4] + (state[3],)
                self.same(tours_of(state), tours)
                wanted += [(h, tour) for tour in tours]
            self.same(tours_in(world), wanted)

    def test_tick_time(self):
        s = [("tick", 0), ("tick", 1), ("fall", 0), ("wake", 0), ("tick", 0)]
        self.same([tick_time(s, 0, 1), tick_time(tuple(s), 0, 2), tick_time(s, 1, 1)], [0, 4, 1])
        for house, number in [(0, 0), (0, 3), (0, -1), (1, 2), (2, 1), (9, 1)] + [(0, x) for x in NO_NUMBERS]:
            self.raises(NoTick(house, number), tick_time, s, house, number)
        self.raises(NoTick(0, 1), tick_time, (), 0, 1)


class Boards(LinksCase):
    def test_one_card_for_each_clock(self):
        """[162]: equal clocks, equal cards; the clock grows by 1, heard and store never fall."""
        for world in worlds(1621, 40, 90):
            known = {}
            boards = [world.state(h)[0] for h in range(world.houses)]
            boards += [world.sheet(h, t + 1)[0] for h in range(world.houses) for t in range(world.ticks(h))]
            for board in boards:
                for h, card in enumerate(board):
                    self.same(known.setdefault((h, card[0]), card), card)
            for h in range(world.houses):
                cards = [known[h, t] for t in range(1, world.ticks(h) + 1)]
                self.assertEqual([card[0] for card in cards], list(range(1, world.ticks(h) + 1)))
                for early, late in zip(cards, cards[1:]):
                    self.assertTrue(all(a <= b for a, b in zip(early[1], late[1])))
                    self.assertTrue(is_tour_at_most(early[2], late[2]))

    def test_what_came_to_a_board(self):
        """[162]: the greatest clock of all that came; the join is that of the past."""
        for world in worlds(1622, 30, 60):
            s = list(world)
            early = World(world.machine)
            for time, event in enumerate(s):
                early.do(event)
                b = event[3] if event[0] == "hand" else event[1]
                past = [s[t] for t in past_times(s, time)]
                board = early.state(b)[0]
                self.assertEqual([card[0] for card in board], [past.count(("tick", a)) for a in range(world.houses)])
                stores = [((0, -1, 0),) * world.machine.registers]
                for a in range(world.houses):
                    stores += [world.sheet(a, t + 1)[0][a][2] for t in range(past.count(("tick", a)))]
                stamps = [[triple[:2] for triple in store] for store in (known_store(board), joined(*stores))]
                self.same(*stamps)

    def test_stretches(self):
        """[162]: behind j stretches the join is at most that of b where d(a, b) is at most j."""
        for net, plain in some_nets(1623, 40, 4):
            pick = random.Random(net.houses)
            lots = Lots(net.houses, [range_list(net.houses)], [range_list(net.houses)])
            world = play(pick, World(Touring(lots)), 40, TOURS, net.pattern.calm())
            chosen = plain.past(net.alive[0]) if net.alive else ()
            if not chosen:
                continue
            start = {a: known_store(world.state(a)[0]) for a in chosen}
            for j in (1, 2, 3):
                loose_stretch(pick, world, net, chosen)
                for a in chosen:
                    for b in chosen:
                        if plain.far[a, b] is not None and plain.far[a, b] <= j:
                            self.assertTrue(is_tour_at_most(start[a], known_store(world.state(b)[0])))


def range_list(houses):
    return list(range(houses))


def touring_worlds(seed, many):
    """Worlds in which all deeds have the same crossing lots: of Memories and of Tourings."""
    pick = random.Random(seed)
    yield from worlds(seed, many, 300)
    for lots in crossing_lots(seed + 1, many, 4):
        yield play(pick, World(Touring(lots)), pick.randint(20, 300), TOURS, some_way(pick, lots.houses))


class Facts(LinksCase):
    def test_numbers_keep_time(self):
        """[163]"""
        pairs = 0
        for world in touring_worlds(1631, 40):
            s = list(world)
            tours = tours_in(world)
            for h, a in tours:
                for g, b in tours:
                    if a[6] is not None and b[4] is not None and a is not b:
                        # Equal times are one tick of one house, in whose first look a ended.
                        if tick_time(s, h, a[5]) <= tick_time(s, g, b[2]):
                            pairs += 1
                            self.assertLess(a[4], b[4])
        self.assertGreater(pairs, 1000)

    def test_later_number_has_the_put(self):
        """[164], [165]"""
        pairs = settled = 0
        for world in touring_worlds(1641, 40):
            tours = all_tours(world)
            for a in tours:
                for b in tours:
                    if a[4] is None or b[6] is None:
                        continue
                    if a[4] <= b[4]:
                        pairs += 1
                        self.assertTrue(is_tour_at_most(a[3], b[6]))
                        if is_tour_at_most(b[6], b[3]):
                            settled += 1
                            self.assertTrue(is_tour_at_most(a[3], b[3]))
                            if a[4] == b[4] and a[6] is not None and is_tour_at_most(a[6], a[3]):
                                self.assertTrue(is_tour_at_most(b[3], a[3]))
                    if a[6] is not None:
                        self.assertTrue(is_tour_at_most(a[3], b[6]) or is_tour_at_most(b[3], a[6]))
            for a in tours:
                if a[6] is not None:
                    self.assertTrue(is_tour_at_most(a[3], a[6]))
        self.assertGreater(min(pairs, settled), 1000)


def one_lot_each(n, asked, heard):
    """The schedule of [169]."""
    a, b = min(asked), min(heard)
    s = []
    for r in sorted(heard):
        s += [("tick", r)] * (3 * n + 9)
        s += [("hand", r, 3 * n + 9, x) for x in (a, b) if x != r]
    made = {h: 3 * n + 9 if h in heard else 0 for h in range(n)}
    for p in (a, b):
        s += [("begin", p, ("tour", 10 + p)), ("tick", p)]
        made[p] += 1
        sheet = made[p]
        for w in sorted(asked):
            if w != p:
                s += [("hand", p, sheet, w), ("tick", w)]
                made[w] += 1
                s.append(("hand", w, made[w], p))
        s.append(("tick", p))
        made[p] += 1
    return s


class OneLotEach(LinksCase):
    def test_crossing(self):
        """[169]: with a common house [163] to [165] hold."""
        pick = random.Random(169)
        for lots in crossing_lots(1692, 40, 5):
            one = Lots(lots.houses, [lots.asked[0]], [lots.heard[0]])
            world = play(pick, World(Touring(one)), 100, TOURS)
            tours = [tour for tour in all_tours(world) if tour[6] is not None]
            for a in tours:
                for b in tours:
                    self.assertTrue(a[4] > b[4] or is_tour_at_most(a[3], b[6]))

    def test_not_crossing(self):
        """[169]"""
        pick = random.Random(1691)
        for _ in range(60):
            n = pick.randint(2, 7)
            houses = pick.sample(range(n), n)
            cut = pick.randint(1, n - 1)
            asked, heard = sorted(houses[:cut]), sorted(houses[cut:])[:pick.randint(1, n - cut)]
            world = run(Touring(Lots(n, [asked], [heard])), one_lot_each(n, asked, heard))
            a, b = min(asked), min(heard)
            one, two = tours_of(world.state(a))[0], tours_of(world.state(b))[0]
            self.assertIsNotNone(one[6])
            self.assertIsNotNone(two[6])
            self.assertGreaterEqual(two[4], one[4])
            self.same(one[3][a], (1, a, 10 + a))
            self.assertLess(two[6][a][:2], one[3][a][:2])


if __name__ == "__main__":
    unittest.main()
