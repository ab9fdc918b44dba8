"""Worlds: points [7] to [9], [120], [121], [129], and silentlinks/worlds.py."""

import random
import unittest

from silentlinks.errors import (
    BadEvent, BadHouse, BadLinks, BadMachine, IsAwake, IsBusy, IsSilent, LinksError, NoSheet, NotAdmitted, NotAwake,
    NotDone,
)
from silentlinks.machines import Gossip, Machine
from silentlinks.worlds import World, run
from runs import TOURS, Log, play, some_event, some_worlds, telling
from support import NO_NUMBERS, LinksCase

GET = ("get", 0)


def is_house(n, value):
    return type(value) is int and 0 <= value < n


def has_form(n, e):
    """[8]: whether e is an event of n houses, by its form alone."""
    if not isinstance(e, tuple) or len(e) == 0 or not isinstance(e[0], str):
        return False
    if e[0] in ("tick", "fall", "wake"):
        return len(e) == 2 and is_house(n, e[1])
    if e[0] == "begin":
        return len(e) == 3 and is_house(n, e[1]) and isinstance(e[2], tuple)
    if e[0] == "hush":
        return len(e) == 3 and is_house(n, e[1]) and is_house(n, e[2]) and e[1] != e[2]
    if e[0] == "hand":
        fits = len(e) == 4 and is_house(n, e[1]) and is_house(n, e[3]) and e[1] != e[3]
        return fits and type(e[2]) is int and e[2] >= 1
    return False


class Plain:
    """A world read from [8] and [9], that keeps nothing but its events and works out all from them."""

    def __init__(self, machine):
        self.machine, self.events = machine, []

    def replay(self):
        m = self.machine
        self.states = [m.fresh(h) for h in range(m.houses)]
        self.sheets = [[] for _ in range(m.houses)]
        self.fallen, self.since, self.records = set(), {}, []
        for time, e in enumerate(self.events):
            if e[0] == "begin":
                self.records.append([e[1], e[2], time, None, None])
                self.states[e[1]] = m.begin(self.states[e[1]], e[1], e[2])
            elif e[0] == "tick":
                self.states[e[1]], answer = m.tick(self.states[e[1]], e[1])
                self.sheets[e[1]].append(self.states[e[1]])
                for record in self.records:
                    if record[0] == e[1] and record[3] is None and answer is not None:
                        record[3:] = [time, answer]
            elif e[0] == "hand":
                self.states[e[3]] = m.hear(self.states[e[3]], e[3], e[1], self.sheets[e[1]][e[2] - 1])
            elif e[0] == "hush":
                self.since[e[1:]] = len(self.sheets[e[1]])
            else:
                (self.fallen.add if e[0] == "fall" else self.fallen.discard)(e[1])

    def error(self, e):
        """The error with which the event is refused, None if it is done."""
        self.replay()
        if not has_form(self.machine.houses, e):
            return BadEvent()
        h = e[3] if e[0] == "hand" else e[1]
        if e[0] == "wake":
            return None if h in self.fallen else IsAwake(h)
        if e[0] == "hush":
            return IsSilent(*e[1:]) if e[1:] in self.since else None
        if h in self.fallen:
            return NotAwake(h)
        if e[0] == "begin":
            if any(r[0] == h and r[3] is None for r in self.records):
                return IsBusy(h)
            return None if self.machine.admits(h, e[2]) else NotAdmitted(h)
        if e[0] == "hand":
            if e[2] > len(self.sheets[e[1]]):
                return NoSheet(e[1], e[2])
            if (e[1], h) in self.since and e[2] > self.since[e[1], h]:
                return IsSilent(e[1], h)
        return None


WRONG = (
    None, 5, True, ("tock",), ("",), "tick", ["tick", 0], [], (), ("tick",), ("tick", 0, 0), ("tock", 0), (0, "tick"), (None, 0), (b"tick", 0),
    (["tick"], 0), (("tick",), 0), ("Tick", 0), ("begin", 0), ("begin", 0, None), ("begin", 0, ["tour", 1]),
    ("begin", 0, "tour"), ("begin", 0, ("tour", 1), 2), ("begin", 9, ("tour", 1)), ("fall",), ("wake", 0, 1), ("hush", 0),
    ("hush", 0, 0), ("hush", 0, 1, 2), ("hush", (0, 1)), ("hand", 0, 1), ("hand", 0, 1, 0), ("hand", 0, 0, 1),
    ("hand", 0, -1, 1), ("hand", 0, 1, 1, 1), ("hand", 0, "1", 1), ("hand", 0, (1,), 1), ("hand", 0, 1, 9), ("", 0), {}, {0},
)


class Does(LinksCase):
    def test_exactly(self):
        """[120]: an event is done exactly if [8] allows it, else the first error is raised and nothing changes."""
        pick = random.Random(120)
        seen = {}
        for make in (Gossip, Log):
            for _ in range(25):
                world = World(make(pick.randint(1, 4)))
                plain = Plain(world.machine)
                for _ in range(45):
                    event = some_event(pick, world, TOURS + [GET, ()])
                    wanted = plain.error(event)
                    self.assertIs(world.can(event), wanted is None)
                    seen[type(wanted)] = seen.get(type(wanted), 0) + 1
                    if wanted is None:
                        plain.events.append(event)
                        answer = world.do(event)
                        plain.replay()
                        ended = [r[4] for r in plain.records if r[3] == len(plain.events) - 1]
                        self.same(answer, ended[0] if ended else None)
                    else:
                        before = telling(world)
                        self.raises(wanted, world.do, event)
                        self.same(telling(world), before)
                self.same(world.history(), tuple(tuple(r) for r in plain.records))
                self.same([world.state(h) for h in range(world.houses)], plain.states)
                self.same([[world.sheet(h, t + 1) for t in range(world.ticks(h))] for h in range(world.houses)], plain.sheets)
        self.assertEqual(set(seen), {type(None), BadEvent, IsAwake, IsSilent, NotAwake, IsBusy, NotAdmitted, NoSheet})

    def test_values_of_any_kind(self):
        """[120]"""
        world = play(random.Random(5), World(Gossip(3)), 40)
        before = telling(world)
        forms = [("tick", None), ("fall", None), ("wake", None), ("begin", None, ("tour", 1)), ("hush", None, 1),
                 ("hush", 1, None), ("hand", None, 1, 0), ("hand", 0, None, 1), ("hand", 0, 1, None)]
        rows = [tuple(value if x is None else x for x in form) for form in forms for value in NO_NUMBERS + (3, -1, 1e400)
                if not (form[0] == "hand" and form[2] is None and value == 3)]
        for event in list(WRONG) + rows:
            self.assertIs(world.can(event), False)
            self.raises(BadEvent(), world.do, event)
        self.same(telling(world), before)

    def test_first_error(self):
        """[120]"""
        world = World(Gossip(3))
        for event in (("begin", 0, TOURS[0]), ("tick", 0), ("fall", 0), ("hush", 1, 0)):
            world.do(event)
        self.raises(NotAwake(0), world.do, ("begin", 0, GET))
        self.raises(NotAwake(0), world.do, ("hand", 1, 9, 0))
        self.raises(NotAwake(0), world.do, ("fall", 0))
        self.raises(NotAwake(0), world.do, ("tick", 0))
        world.do(("wake", 0))
        self.raises(IsAwake(0), world.do, ("wake", 0))
        self.raises(IsBusy(0), world.do, ("begin", 0, GET))
        self.raises(NotAdmitted(1), world.do, ("begin", 1, GET))
        self.raises(NoSheet(1, 1), world.do, ("hand", 1, 1, 0))
        self.raises(BadEvent(), world.do, ("hand", 1, 0, 0))
        world.do(("tick", 1))
        self.raises(IsSilent(1, 0), world.do, ("hand", 1, 1, 0))
        self.raises(IsSilent(1, 0), world.do, ("hush", 1, 0))
        self.raises(NoSheet(0, 10 ** 29), world.do, ("hand", 0, 10 ** 29, 1))

    def test_sheets_of_a_link_that_fell_silent(self):
        """[8]: sheets made before are handed, also again and late; later ones are not."""
        world = World(Log(2))
        for event in (("tick", 0), ("tick", 0), ("hush", 0, 1), ("tick", 0)):
            world.do(event)
        for number in (2, 1, 2, 2, 1):
            self.assertIsNone(world.do(("hand", 0, number, 1)))
        self.raises(IsSilent(0, 1), world.do, ("hand", 0, 3, 1))
        self.same([world.silent_since(0, 1), world.silent_since(1, 0)], [2, None])
        world.do(("tick", 1))
        self.assertIsNone(world.do(("hand", 1, 1, 0)))

    def test_fallen_house_wakes(self):
        """[8]: it goes on from the state in which it fell, its deed still in progress; a fall ends no deed."""
        world = World(Gossip(2))
        for event in (("begin", 0, ("tour", 3)), ("tick", 0), ("tick", 1), ("fall", 0)):
            world.do(event)
        state = world.state(0)
        self.same([world.awake(0), world.deed(0)], [False, ("tour", 3)])
        # Its sheets are still handed, and its links may fall silent.
        for event in (("hand", 0, 1, 1), ("hush", 0, 1), ("wake", 0)):
            world.do(event)
        self.same([world.state(0), world.awake(0), world.deed(0)], [state, True, ("tour", 3)])
        world.do(("hand", 1, 1, 0))
        self.same([world.do(("tick", 0)), world.history()], [3, ((0, ("tour", 3), 0, 8, 3),)])

    def test_answer_without_a_deed_is_lost(self):
        """[8], do: an answer of the machine is lost if no deed is in progress."""
        class Loud(Gossip):
            def tick(self, state, me):
                return (state, 0)
        world = World(Loud(2))
        self.assertIsNone(world.do(("tick", 0)))
        world.do(("begin", 1, ("tour", 4)))
        self.assertIsNone(world.do(("tick", 0)))
        self.same([world.do(("tick", 1)), world.do(("tick", 1)), world.history()], [0, None, ((1, ("tour", 4), 1, 3, 0),)])

    def test_one_house(self):
        world = World(Gossip(1))
        self.same([world.do(e) for e in (("begin", 0, ("tour", 9)), ("tick", 0), ("tick", 0))], [None, 9, None])
        self.raises(BadEvent(), world.do, ("hush", 0, 0))
        self.raises(BadLinks(-1), world.silent_since, 0, 0)

    def test_a_machine_that_fails_changes_nothing(self):
        """[1]: a call that raises an error changes nothing."""
        class Frail(Log):
            def tick(self, state, me):
                raise ZeroDivisionError
            begin = hear = lambda self, *rest: 1 // 0
        world = World(Frail(2))
        before = telling(world)
        for event in (("tick", 0), ("begin", 0, GET)):
            self.assertRaises(ZeroDivisionError, world.do, event)
        self.same(telling(world), before)


class Tells(LinksCase):
    def test_fresh(self):
        """[8]"""
        for houses in range(1, 8):
            world = World(Log(houses))
            self.assertEqual(world.houses, houses)
            self.same(telling(world)[:3], ([], 0, ()))
            for h in range(houses):
                self.same(
                    [world.state(h), world.ticks(h), world.awake(h), world.deed(h)], [("fresh", h), 0, True, None])
                self.raises(NoSheet(h, 1), world.sheet, h, 1)

    def test_not_a_machine(self):
        for value in (None, 3, Machine, Gossip, "machine", World(Gossip(2))):
            self.raises(BadMachine(), World, value)
            self.raises(BadMachine(), run, value, (("nothing",),))

    def test_wrong_questions(self):
        world = play(random.Random(7), World(Gossip(2)), 30)
        for ask in (world.state, world.ticks, world.awake, world.deed, lambda h: world.sheet(h, 0)):
            for house in (2, -1) + NO_NUMBERS:
                self.raises(BadHouse(house), ask, house)
        for number in (0, -1, world.ticks(0) + 1) + NO_NUMBERS:
            self.raises(NoSheet(0, number), world.sheet, 0, number)
        for pair in [(0, 0), (0, 2), (2, 0), (-1, 0)] + [(0, x) for x in NO_NUMBERS] + [(x, 1) for x in NO_NUMBERS]:
            self.raises(BadLinks(-1), world.silent_since, *pair)

    def test_history(self):
        """[9], [129]"""
        for world in some_worlds(129, 60, 80):
            events, history = list(world), world.history()
            self.same([r[2] for r in history], [t for t, e in enumerate(events) if e[0] == "begin"])
            twin = World(world.machine)
            answers = {t: twin.do(e) for t, e in enumerate(events)}
            ended = {r[3]: r[4] for r in history if r[3] is not None}
            self.assertEqual({t: a for t, a in answers.items() if a is not None}, ended)
            for house, deed, begun, end, answer in history:
                self.same(events[begun], ("begin", house, deed))
                if end is None:
                    self.assertIsNone(answer)
                    self.same(world.deed(house), deed)
                else:
                    self.assertEqual(events[end], ("tick", house))
            for h in range(world.houses):
                open_ones = [r for r in history if r[0] == h and r[3] is None]
                self.assertEqual(len(open_ones), 0 if world.deed(h) is None else 1)


class Copies(LinksCase):
    def test_replay(self):
        """[121]"""
        for make in (Gossip, Log):
            for world in some_worlds(121, 30, 60, make):
                self.same(telling(run(world.machine, list(world))), telling(world))
                self.same(telling(run(world.machine, tuple(world))), telling(world))

    def test_twin(self):
        """[121]: a world and its twin do not affect each other."""
        pick = random.Random(122)
        for world in some_worlds(123, 40):
            before = telling(world)
            twin = world.twin()
            self.assertIs(type(twin), World)
            self.assertIs(twin.machine, world.machine)
            self.same(telling(twin), before)
            after = telling(play(pick, twin, 30))
            self.same(telling(world), before)
            play(pick, world, 30)
            self.same(telling(twin), after)

    def test_handed_out(self):
        """[1]: what is handed in or out may be changed without any effect."""
        world = play(random.Random(1), World(Gossip(3)), 40)
        before = telling(world)
        for row in telling(world):
            if isinstance(row, list):
                row.clear()
        self.same(telling(world), before)
        events = [("tick", 0), ("tick", 1)]
        other = run(Gossip(2), events)
        events.append(("tick", 0))
        self.same(list(other), events[:2])

    def test_run_refused(self):
        events = [("tick", 0), ("wake", 1), ("nothing",)]
        caught = self.raises(NotDone(1), run, Gossip(2), events)
        self.assertIsInstance(caught.__cause__, IsAwake)
        self.assertEqual(caught.__cause__.house, 1)
        self.same(events, [("tick", 0), ("wake", 1), ("nothing",)])
        self.assertIsInstance(self.raises(NotDone(0), run, Gossip(2), ([],)).__cause__, BadEvent)
        self.same(list(run(Gossip(2), ())), [])
        self.assertTrue(issubclass(NotDone, LinksError))


if __name__ == "__main__":
    unittest.main()
