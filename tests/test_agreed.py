"""Points [241], [242], [244] to [247], [249] and [250]: the machine Agreed."""

import random
import unittest

from silentlinks.agreed import Agreed
from silentlinks.apart import by_registers
from silentlinks.errors import BadLots, BadNumber
from silentlinks.judging import is_order
from silentlinks.lots import Lots
from silentlinks.machines import Machine
from silentlinks.nets import Net
from silentlinks.patterns import Pattern
from silentlinks.replay import agreed_history, agreed_rows, answer_in
from silentlinks.search import find_order
from silentlinks.stretches import do_all, do_rounds
from silentlinks.worlds import World
from runs import play, struck, telling
from support import NO_NUMBERS, LinksCase, Reach, some_lots, some_pattern
from touring import has_order
from wishes import KEPT, PROPOSALS, WISHES, PlainAgreed, agreed_worlds, cards_of, some_agreed


def begins_with(longer, row):
    return longer[:len(row)] == row


class Machines(LinksCase):
    def test_made(self):
        self.assertTrue(issubclass(Agreed, Machine))
        for name in ("admits", "fresh", "begin", "hear", "tick"):
            self.assertIn(name, vars(Agreed))
        lots = Lots(3, [[0]], [[1, 2]])
        machine = Agreed(lots)
        self.assertTrue(machine.lots == lots)
        self.same([machine.houses, machine.base, Agreed(lots, base=1).base], [3, 6, 1])
        for value in (None, 3, (), Lots, [[0]], "lots"):
            self.raises(BadLots("asked", -1), Agreed, value, base=None)
        for value in (0, -1) + NO_NUMBERS:
            self.raises(BadNumber("base"), Agreed, lots, base=value)

    def test_admits(self):
        machine = Agreed(Lots(2, [[0]], [[0]]))
        good = [("get", 0), ("get", 7), ("put", 7, -5), ("put", 0, 10 ** 29), ("add_if", 0, 0, 0), ("add_if", 7, -1, 2),
                ("propose", -3)]
        wrong = [(), ("get",), ("get", 8), ("get", -1), ("put", 0), ("put", 8, 1), ("put", -1, 1), ("add_if", 0, 0),
                 ("add_if", 8, 0, 0), ("add_if", -1, 0, 0), ("look",), ("tour", 1), ("move", 1), ("propose",), ("propose", 1, 2)]
        for value in NO_NUMBERS:
            wrong += [("get", value), ("put", value, 1), ("put", 0, value), ("add_if", value, 0, 0), ("add_if", 0, value, 0),
                      ("add_if", 0, 0, value), ("propose", value)]
        for me in (0, 1):
            self.assertTrue(all(machine.admits(me, deed) is True for deed in good))
            self.assertTrue(all(machine.admits(me, deed) is False for deed in wrong))

    def test_states(self):
        """[241], [242]: the states of random runs are those of a plain reading, with lots that cross and others."""
        pick = random.Random(3)
        answers = 0
        for crossing in (True, False):
            for _, machine in some_agreed(5 + crossing, 60, 4, crossing):
                world = play(pick, World(machine), pick.randint(10, 500), WISHES, pick.choice((None, Pattern())))
                other = World(PlainAgreed(machine.lots, machine.base))
                do_all(other, list(world))
                self.assertEqual(telling(other), telling(world))
                answers += sum(record[3] is not None for record in world.history())
        self.assertGreater(answers, 200)

    def test_states_in_rounds(self):
        """Runs in rounds, in which most wishes are agreed."""
        pick = random.Random(4)
        for _, machine in some_agreed(8, 40, 4):
            world, other = World(machine), World(PlainAgreed(machine.lots, machine.base))
            net = Net(machine.houses, some_pattern(pick, machine.houses))
            for _ in range(40):
                events = [("begin", h, pick.choice(WISHES)) for h in range(machine.houses) if world.deed(h) is None]
                do_all(world, events)
                do_rounds(world, net, net.alive, 1)
            do_all(other, list(world))
            self.assertEqual(telling(other), telling(world))

    def test_one_house(self):
        """An agreement of one house: the first view it leads begins with clock 0, and a base of 1 changes views soon."""
        for base in (1, 2, 6):
            world = World(Agreed(Lots.majority(1), base=base))
            for number in range(5):
                self.same(world.do(("begin", 0, ("put", 0, number))), None)
                # It is proposed once in a view, and answered two ticks into the next one at the latest.
                ticks = 0
                while world.deed(0) is not None:
                    world.do(("tick", 0))
                    ticks += 1
                self.assertLessEqual(ticks, base + 6)
                self.same(world.history()[-1][4], number)
            self.same(len(agreed_rows(world)[0]), 5)

    def test_add_if(self):
        """An add_if that finds another number answers 0 and changes nothing."""
        world = World(Agreed(Lots.majority(1), base=1))
        rows = [("add_if", 0, 3, 9), ("get", 0), ("add_if", 0, 0, 4), ("add_if", 0, 0, 5), ("get", 0)]
        told = []
        for deed in rows:
            world.do(("begin", 0, deed))
            while world.deed(0) is not None:
                world.do(("tick", 0))
            told.append(world.history()[-1][4])
        self.same(told, [0, 0, 1, 0, 4])

    def test_leader_not_alive(self):
        """A leader that is not alive lets its view pass; the next one's leader goes on."""
        lots = Lots.majority(3)
        net = Net(3, Pattern([0]))
        world = struck(None, Agreed(lots, base=6), net.pattern)
        world.do(("begin", 1, ("propose", 5)))
        told = do_rounds(world, net, (1, 2), 40)
        self.assertEqual([(h, a) for _, h, a in told], [(1, 5)])
        self.assertGreaterEqual(told[0][0], 6)
        views = {card[1][0] for _, card in cards_of(world)} - {-1}
        self.same([min(views), {view % 3 for view in views}], [1, {1, 2}])


class Agreement(LinksCase):
    def test_one_row_in_each_view(self):
        """[244]: whatever the lots; the accepted view of a house never falls."""
        many, twice = 0, 0
        for crossing in (True, False):
            for world in agreed_worlds(11 + crossing, 60, 900, WISHES, crossing):
                rows, last = {}, {}
                for house, card in cards_of(world):
                    for view, row in card[1:3]:
                        self.same(rows.setdefault(view, row), row)
                    self.assertGreaterEqual(card[1][0], last.get(house, -1))
                    last[house] = card[1][0]
                many += len(rows)
                wishes = {wish for row in rows.values() for wish in row}
                twice += sum(sum(wish in row for row in rows.values()) > 1 for wish in wishes)
        self.assertGreater(many, 300)
        # Wishes that stand in the rows of two views or more.
        self.assertGreater(twice, 100)

    def test_later_rows_go_on(self):
        """[245]: a row that all members of an asked lot accepted in one view stands ahead in all later proposals."""
        many = 0
        for world in agreed_worlds(13, 120):
            accepted, proposed = {}, {}
            for house, card in cards_of(world):
                accepted.setdefault(card[1], set()).add(house)
                proposed[card[2][0]] = card[2][1]
            for (view, row), houses in accepted.items():
                if view >= 0 and any(set(lot) <= houses for lot in world.machine.lots.asked):
                    for later in proposed:
                        if later > view:
                            many += 1
                            self.assertTrue(begins_with(proposed[later], row))
        self.assertGreater(many, 300)

    def test_one_order(self):
        """[246], [247]: agreed rows, and the answers in them."""
        answers = 0
        for world in agreed_worlds(14, 150):
            rows = {card[4] for _, card in cards_of(world)} | set(agreed_rows(world))
            longest = max(rows, key=len)
            self.assertTrue(all(begins_with(longest, row) for row in rows))
            self.assertEqual(len(set(longest)), len(longest))
            turns, begun = {}, {}
            for record in world.history():
                turn = turns.setdefault(record[0], 0)
                turns[record[0]] += 1
                begun[record[0], turn, record[1]] = record
            self.assertTrue(set(longest) <= set(begun))
            for k, wish in enumerate(longest):
                for later in longest[k + 1:]:
                    self.assertFalse(begun[later][3] is not None and begun[later][3] < begun[wish][2])
            for wish, record in begun.items():
                if record[3] is not None:
                    answers += 1
                    row = agreed_rows(world)[record[0]]
                    self.assertIn(wish, row)
                    self.same(record[4], answer_in(row, wish))
                    self.same(record[4], answer_in(longest, wish))
        self.assertGreater(answers, 500)

    def test_one_number(self):
        """[247]: all propose deeds are answered with the same number, one that was proposed."""
        several = 0
        for world in agreed_worlds(15, 80, 900, PROPOSALS):
            told = {record[4] for record in world.history() if record[3] is not None}
            self.assertLessEqual(len(told), 1)
            self.assertTrue(told <= {record[1][1] for record in world.history()})
            several += len([r for r in world.history() if r[3] is not None]) > 1
        self.assertGreater(several, 20)

    def test_order_of_gets_and_puts(self):
        """[247]: if only gets and puts were begun, the history has an order."""
        for world in agreed_worlds(16, 80, 700, KEPT):
            history = agreed_history(world)
            self.assertEqual(len(history), len(world.history()))
            for _, part in by_registers(history):
                self.assertTrue(has_order([(h, d, b, e, a) for h, d, b, e, a in part]))
            if len(history) < 7:
                row = find_order(history)
                self.assertTrue(row is not None and is_order(history, row))

    def test_never(self):
        """[249]: struck at the beginning, unwoken: where the lots do not serve, no deed is ever answered."""
        pick, many = random.Random(17), 0
        for lots in some_lots(17, 150, 4):
            pattern = some_pattern(pick, lots.houses)
            reach = Reach(lots.houses, pattern)
            world = struck(pick, Agreed(lots, base=pick.randint(1, 6)), pattern)
            play(pick, world, 300, WISHES, Pattern((), pattern.silent))
            net = Net(lots.houses, pattern)
            do_rounds(world, net, net.alive, 30)
            for house in reach.alive:
                if not lots.serves(net, house):
                    many += 1
                    self.assertFalse(any(r[3] is not None for r in world.history() if r[0] == house))
        self.assertGreater(many, 30)

    def test_lots_that_miss_one_another(self):
        """[250]: one asked and one heard lot apart: two houses are answered unlike numbers."""
        machine = Agreed(Lots(3, [[0]], [[1]]), base=2)
        world = World(machine)
        # House 1 ticks up to view 2, which house 2 leads; house 0 leads view 0 and has heard house 1 in it.
        do_all(world, [("tick", 1), ("hand", 1, 1, 0), ("begin", 0, ("propose", 5)), ("tick", 0)])
        answered = do_all(world, [("tick", 0), ("tick", 0)])
        self.same([(h, a) for _, h, a in answered], [(0, 5)])
        do_all(world, [("tick", 1)] * 5 + [("hand", 1, 6, 2), ("begin", 2, ("propose", 7))] + [("tick", 2)] * 6)
        self.same(world.state(2)[0][2][2], (2, ((2, 0, ("propose", 7)),)))
        do_all(world, [("hand", 2, 6, 0)] + [("tick", 0)] * 4 + [("hand", 0, world.ticks(0) + 4, 2)])
        told = do_all(world, [("tick", 2)] * 2)
        self.same([(h, a) for _, h, a in told], [(2, 7)])
        self.same({record[4] for record in world.history()}, {5, 7})


if __name__ == "__main__":
    unittest.main()
