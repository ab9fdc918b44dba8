"""Points [280] and [281]: the desk."""

import random
import unittest

from silentlinks.books import Book
from silentlinks.desk import Desk, Trial, what_if
from silentlinks.errors import (
    BadBook, BadEvent, BadHouse, BadMachine, BadNumber, BadPattern, Closed, FixedMachine, IsBusy, LinksError, NoSheet,
    NotAdmitted, NotAwake, NothingBack, OtherHouses,
)
from silentlinks.lots import Lots
from silentlinks.machines import Gossip
from silentlinks.memory import Memory
from silentlinks.nets import Net
from silentlinks.patterns import Pattern
from silentlinks.stretches import round_events, strike
from silentlinks.texts import book_from
from silentlinks.told import Told
from silentlinks.worlds import World, run
from breaking import DEAF, QUICK, crossing_for, some_machine
from runs import some_event, telling
from support import NO_NUMBERS, LinksCase, some_books

PUT, GET = ("put", 0, 1), ("get", 0)
PAIR = book_from("houses 2\npattern silent 0>1\npattern fall 1")


def some_desk(pick, houses=3):
    book = [book for book in some_books(pick.random(), 30, houses) if book.houses == houses][0]
    return Desk(book, some_machine(pick, houses), patience=pick.randint(1, 6))


def shown(desk):
    """All that a desk shows."""
    return (telling(desk.world()), desk.struck, desk.waiting, len(desk), list(desk), desk.done())


class PlainDesk:
    """[280], word by word: a world, the struck pattern, and what both were ahead of each action."""

    def __init__(self, book, machine, patience):
        self.book, self.machine, self.patience = book, machine, patience
        self.events, self.struck, self.kept = [], None, []

    def act(self, call):
        world = run(self.machine, self.events)
        before = (list(self.events), self.struck)
        told = call(world)
        self.kept.append(before)
        self.events = list(world)
        return told

    def net(self):
        return Net(self.book.houses, Pattern() if self.struck is None else self.book.patterns[self.struck])

    def do(self, event):
        return self.act(lambda world: world.do(event))

    def strike(self, number):
        def call(world):
            events = strike(world, self.book.patterns[number])
            for event in events:
                world.do(event)
            return events
        told = self.act(call)
        self.struck = number
        return told

    def one_round(self, world, number):
        told = []
        for event in round_events(world, self.net(), self.net().alive):
            answer = world.do(event)
            if answer is not None:
                told.append((number, event[1], answer))
        return told

    def rounds(self, many):
        return self.act(lambda world: [row for k in range(many) for row in self.one_round(world, k + 1)])

    def run_to_answer(self, house):
        world = run(self.machine, self.events)
        if world.deed(house) is None:
            return (0, None)

        def call(world):
            for k in range(self.patience):
                told = [answer for _, h, answer in self.one_round(world, k + 1) if h == house]
                if told:
                    return (k + 1, told[0])
            return (self.patience, None)
        return self.act(call)

    def back(self):
        if not self.kept:
            raise NothingBack()
        self.events, self.struck = self.kept.pop()
        return True

    def shown(self):
        world = run(self.machine, self.events)
        waiting = tuple(h for h in range(world.houses) if world.deed(h) is not None)
        return (telling(world), self.struck, waiting, len(self.kept), list(world.history()), tuple(self.events))


def some_action(pick, desk):
    """The name of an action and its argument; many are refused."""
    word = pick.choice(("do", "do", "do", "do", "strike", "rounds", "run_to_answer", "back"))
    if word == "do":
        event = some_event(pick, desk.world(), [PUT, GET])
        return word, pick.choice((event, event, event, event, None, ("tick", 9), ("hand", 0, 77, 1)))
    if word == "strike":
        return word, pick.choice(list(range(len(desk.book))) * 3 + [-1, 12])
    if word == "rounds":
        return word, pick.choice((0, 1, 1, 2, 3, -1, 201))
    return word, pick.choice(list(range(desk.book.houses)) * 3 + [9]) if word == "run_to_answer" else None


def acted(desk, word, value):
    """What an action returns, or the error that it raises, told."""
    try:
        return getattr(desk, word)() if word == "back" else getattr(desk, word)(value)
    except (LinksError, IndexError) as caught:
        return type(caught).__name__ if isinstance(caught, LinksError) else "BadPattern"


class Desks(LinksCase):
    def test_made(self):
        machine = Gossip(2)
        desk = Desk(PAIR, machine)
        self.assertIs(desk.machine, machine)
        self.assertIs(desk.book, PAIR)
        self.same([desk.patience, desk.struck, desk.waiting, len(desk), list(desk), desk.done()], [24, None, (), 0, [], ()])
        self.assertEqual(telling(desk.world()), telling(World(machine)))

    def test_errors_of_a_desk(self):
        """The book, the machine, their houses, the patience."""
        for value in (None, 5, Book, [PAIR], "houses 1"):
            self.raises(BadBook(), Desk, value, None, patience=None)
        for value in (None, 5, Gossip, World(Gossip(2))):
            self.raises(BadMachine(), Desk, PAIR, value, patience=None)
        self.raises(OtherHouses(), Desk, PAIR, Gossip(3), patience=None)
        for value in (0, 201, -1) + NO_NUMBERS:
            self.raises(BadNumber("patience"), Desk, PAIR, Gossip(2), patience=value)
        self.same([Desk(PAIR, Gossip(2), patience=k).patience for k in (1, 200)], [1, 200])

    def test_machine_is_fixed(self):
        desk = Desk(PAIR, Gossip(2))
        for value in (Gossip(2), None, desk.machine):
            self.raises(FixedMachine(), setattr, desk, "machine", value)
        self.same(desk.machine.houses, 2)

    def test_random_actions(self):
        """Each action behind each other one, refused ones too, against a plain desk; then everything taken back."""
        pick, seen = random.Random(1), set()
        for _ in range(200):
            desk = some_desk(pick, pick.randint(1, 3))
            plain = PlainDesk(desk.book, desk.machine, desk.patience)
            rows, last = [shown(desk)], None
            for _ in range(25):
                word, value = some_action(pick, desk)
                told = acted(desk, word, value)
                if isinstance(told, str) and told.endswith(("Bad", "Error")) or told in ("BadPattern", "BadNumber", "BadHouse"):
                    wanted = told
                else:
                    wanted = acted(plain, word, value)
                self.same(told, wanted)
                self.same(shown(desk), plain.shown())
                key = word if not isinstance(told, str) else word + " refused"
                seen.add((last, key))
                last = key
                rows.append(shown(desk))
                self.assertEqual(telling(run(desk.machine, desk.done())), telling(desk.world()))
            while len(desk):
                self.same(desk.back(), True)
                plain.back()
                self.same(shown(desk), plain.shown())
            self.same(shown(desk), rows[0])
            self.raises(NothingBack(), desk.back)
        names = ("do", "strike", "rounds", "run_to_answer", "back", "do refused", "strike refused", "rounds refused")
        for first in names:
            for later in names:
                self.assertIn((first, later), seen)

    def test_actions_without_events(self):
        """rounds(0), a strike that does no event; run_to_answer with no deed in progress is no action."""
        desk = Desk(Book(2, [Pattern(), Pattern([0])]), Gossip(2))
        self.same([desk.rounds(0), len(desk), desk.strike(0), len(desk), desk.struck], [[], 1, (), 2, 0])
        self.same([desk.strike(1), desk.strike(1), len(desk), desk.done()], [(("fall", 0),), (), 4, (("fall", 0),)])
        self.same([desk.run_to_answer(1), len(desk)], [(0, None), 4])
        self.same([desk.back(), desk.done(), desk.struck], [True, (("fall", 0),), 1])
        self.same([desk.back(), desk.done(), desk.struck], [True, (), 0])
        self.same([desk.back(), desk.struck, desk.back(), len(desk)], [True, None, True, 0])
        self.raises(NothingBack(), desk.back)

    def test_run_to_answer(self):
        """Whole rounds; a patience that is too short; a house that falls in the struck pattern."""
        desk = Desk(PAIR, Told.read(2, "machine third\ncells c\ntick\n  c = c + 1\n  if c >= 3\n    answer 0 - c"), patience=2)
        desk.do(("begin", 0, PUT))
        self.same([desk.run_to_answer(0), len(desk), len(desk.done())], [(2, None), 2, 9])
        self.same([desk.run_to_answer(0), desk.waiting, len(desk), len(desk.done())], [(1, -3), (), 3, 13])
        self.same(list(desk), [(0, PUT, 0, 9, -3)])
        desk.do(("begin", 1, GET))
        desk.strike(1)
        self.same([desk.run_to_answer(1), desk.waiting], [(2, None), (1,)])
        for value in (2, -1) + NO_NUMBERS:
            self.raises(BadHouse(value), desk.run_to_answer, value)
        given = Desk(PAIR, Told.read(2, "machine same\ntick\n  answer given"))
        for value in (5, -3):
            given.do(("begin", 1, ("put", 0, value)))
            self.same(given.run_to_answer(1), (1, value))
        zero = Desk(PAIR, Told.read(2, "machine zero\ntick\n  answer 0"))
        zero.do(("begin", 1, GET))
        self.same(zero.run_to_answer(1), (1, 0))

    def test_refused_in_a_round(self):
        """An event refused in the middle of rounds: a house that is alive in the pattern fell by an event."""
        desk = Desk(PAIR, Told.read(2, DEAF))
        desk.do(("begin", 0, GET))
        desk.do(("fall", 1))
        before = shown(desk)
        self.raises(NotAwake(1), desk.rounds, 3)
        self.raises(NotAwake(1), desk.run_to_answer, 0)
        self.same(shown(desk), before)
        self.same(desk.rounds(0), [])
        desk.strike(1)
        self.same([desk.rounds(2), len(desk.done())], [[], 4])
        # Struck patterns stay: a house that fell in one is no longer awake for the rounds of another one.
        desk.strike(0)
        self.raises(NotAwake(1), desk.rounds, 1)

    def test_round_of_the_desk(self):
        """[280]: of the calm net first, then of the pattern struck last."""
        desk = Desk(PAIR, Gossip(2))
        desk.rounds(1)
        self.same(desk.done(), (("tick", 0), ("tick", 1), ("hand", 0, 1, 1), ("hand", 1, 1, 0)))
        desk.strike(0)
        desk.rounds(1)
        self.same(desk.done()[4:], (("hush", 0, 1), ("tick", 0), ("tick", 1), ("hand", 1, 2, 0)))

    def test_errors_of_actions(self):
        desk = Desk(PAIR, Memory(Lots.majority(2)))
        before = shown(desk)
        for value in (2, -1) + NO_NUMBERS:
            self.raises(BadPattern(value), desk.strike, value)
        for value in (-1, 201) + NO_NUMBERS:
            self.raises(BadNumber("many"), desk.rounds, value)
        self.raises(BadEvent(), desk.do, None)
        self.raises(NoSheet(0, 1), desk.do, ("hand", 0, 1, 1))
        self.raises(NotAdmitted(0), desk.do, ("begin", 0, ("get", 3)))
        self.raises(NothingBack(), desk.back)
        self.same(shown(desk), before)
        desk.do(("begin", 0, GET))
        self.raises(IsBusy(0), desk.do, ("begin", 0, GET))
        self.same(len(desk), 1)
        self.same(len(desk.rounds(200)), 1)

    def test_worlds_handed_out(self):
        """A world that a desk hands out is another one, and a world in use is not that of the desk."""
        desk = Desk(PAIR, Gossip(2))
        desk.do(("tick", 0))
        world = desk.world()
        world.do(("tick", 0))
        world.do(("fall", 1))
        self.same([desk.done(), desk.world().ticks(0), desk.world().awake(1)], [(("tick", 0),), 1, True])
        desk.do(("tick", 1))
        self.same(list(world), [("tick", 0), ("tick", 0), ("fall", 1)])
        told = desk.rounds(1)
        told.append(5)
        self.same(desk.rounds(0), [])
        kept = list(desk)
        self.same(kept, [])

    def test_records(self):
        """Iteration gives the records of the history."""
        desk = Desk(PAIR, Told.read(2, QUICK))
        desk.do(("begin", 0, PUT))
        self.same(list(desk), [(0, PUT, 0, None, None)])
        rows = []
        for record in desk:
            rows.append(record)
            desk.do(("tick", 0))
        self.same([rows, list(desk)], [[(0, PUT, 0, None, None)], [(0, PUT, 0, 1, 1)]])


class Trials(LinksCase):
    def test_undone(self):
        """[281]: behind the block world, struck pattern and actions are as they were, also if an error ends it."""
        pick = random.Random(3)
        for ends in (None, ValueError, LinksError, StopIteration):
            for _ in range(25):
                desk = some_desk(pick)
                for _ in range(pick.randint(0, 6)):
                    acted(desk, *some_action(pick, desk))
                before = shown(desk)
                actions = len(desk)
                try:
                    with Trial(desk) as trial:
                        self.assertIs(trial.desk, desk)
                        self.same(shown(desk), before)
                        for _ in range(8):
                            acted(desk, *some_action(pick, desk))
                            self.assertGreaterEqual(len(desk), actions)
                        if ends is not None:
                            raise ends
                except (ValueError, LinksError, StopIteration) as caught:
                    self.assertIs(type(caught), ends)
                self.same(shown(desk), before)
                # What was done ahead of the block can be taken back behind it.
                while len(desk):
                    desk.back()
                self.same(desk.done(), ())

    def test_back_within(self):
        """[281]: within the block, back takes back only actions of the block."""
        desk = Desk(PAIR, Gossip(2))
        desk.do(("tick", 0))
        desk.strike(0)
        with Trial(desk):
            self.raises(NothingBack(), desk.back)
            desk.do(("tick", 1))
            self.same([len(desk), desk.back(), len(desk)], [3, True, 2])
            self.raises(NothingBack(), desk.back)
            desk.strike(1)
            self.same(desk.struck, 1)
        self.same([len(desk), desk.struck, desk.back(), desk.back(), desk.done()], [2, 0, True, True, ()])

    def test_one_in_another(self):
        desk = Desk(PAIR, Gossip(2))
        desk.do(("tick", 0))
        with Trial(desk):
            desk.do(("tick", 1))
            with Trial(desk):
                self.raises(NothingBack(), desk.back)
                desk.do(("tick", 0))
                self.same(desk.back(), True)
                desk.rounds(3)
            self.same(desk.done(), (("tick", 0), ("tick", 1)))
            self.same(desk.back(), True)
            self.raises(NothingBack(), desk.back)
        self.same([desk.done(), len(desk)], [(("tick", 0),), 1])

    def test_entered_twice(self):
        """Closed() if a Trial is entered a second time, behind its block or within it."""
        desk = Desk(PAIR, Gossip(2))
        trial = Trial(desk)
        self.assertIs(trial.desk, desk)
        with trial as told:
            self.assertIs(told, trial)
            desk.do(("tick", 0))
            self.raises(Closed(), trial.__enter__)
            self.same(len(desk), 1)
        with self.assertRaises(Closed):
            with trial:
                self.fail("entered twice")
        self.same(len(desk), 0)

    def test_what_if(self):
        """The answers that events would give, with their times in done(); the desk stays as it is."""
        pick, answers = random.Random(4), 0
        for _ in range(60):
            desk = some_desk(pick)
            for _ in range(6):
                acted(desk, *some_action(pick, desk))
            before = shown(desk)
            world, events = desk.world(), []
            start, wanted = world.clock, []
            for _ in range(40):
                event = some_event(pick, world, [PUT, GET])
                if world.can(event):
                    answer = world.do(event)
                    if answer is not None:
                        wanted.append((start + len(events), event[1], answer))
                    events.append(event)
            self.same(what_if(desk, pick.choice((events, tuple(events)))), wanted)
            answers += len(wanted)
            self.same(shown(desk), before)
            self.raises(BadEvent(), what_if, desk, events + [None])
            self.same(shown(desk), before)
        self.assertGreater(answers, 2)
        self.same(what_if(Desk(PAIR, Gossip(2)), ()), [])

    def test_memories(self):
        """A desk of a Memory over crossing lots, in which a put is answered in rounds and got by another house."""
        pick = random.Random(5)
        machine = Memory(crossing_for(pick, 3))
        desk = Desk(Book(3, [Pattern()]), machine)
        desk.do(("begin", 0, ("put", 0, 6)))
        self.assertEqual(desk.run_to_answer(0)[1], 6)
        desk.do(("begin", 2, GET))
        self.assertEqual(desk.run_to_answer(2)[1], 6)


if __name__ == "__main__":
    unittest.main()
