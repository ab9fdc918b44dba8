"""Points [14], [220] and [221]: lone runs, and the houses of the chains in them."""

import random
import unittest

from silentlinks.deeds import is_deed
from silentlinks.errors import BadEvent, BadHouse, BadNumber, IsFallen, NotAdmitted
from silentlinks.exactly import rounds_told
from silentlinks.lone import chain_houses, hanging_times, lone_answered, lone_round, lone_schedule
from silentlinks.machines import Gossip, Machine
from silentlinks.memory import Memory
from silentlinks.nets import Net
from silentlinks.patterns import Pattern
from silentlinks.stretches import round_events
from silentlinks.told import Told
from silentlinks.worlds import World, run
from breaking import DEAF, QUICK, SLOW, crossing_for, some_machine
from runs import Log, house_by, past_by, some_nets, some_worlds
from support import NO_NUMBERS, LinksCase

DEEDS = [("put", 0, 1), ("get", 0)]


def lone_by(machine, net, houses, house, deed, patience):
    """[14], word by word: the schedule up to the answer and its round, or the whole schedule and None."""
    world = World(machine)
    world.do(("begin", house, deed))
    for number in range(1, patience + 1):
        for event in round_events(world, net, houses):
            if world.do(event) is not None and event == ("tick", house):
                return tuple(world), number
    return tuple(world), None


class Lone(LinksCase):
    def test_lone_runs(self):
        """[14]: round, schedule and answered schedule, for machines of all kinds."""
        pick = random.Random(1)
        answered = 0
        for net, reach in some_nets(41, 120, 4):
            if not net.alive:
                continue
            machine = some_machine(pick, net.houses)
            house, deed, patience = pick.choice(net.alive), pick.choice(DEEDS), pick.randint(1, 14)
            schedule, number = lone_by(machine, net, reach.past(house), house, deed, patience)
            self.same(lone_round(machine, net, house, deed, patience), number)
            self.same(lone_answered(machine, net, house, deed, patience), schedule if number is not None else None)
            whole = lone_schedule(machine, net, house, deed, patience)
            self.same(whole[:len(schedule)], schedule)
            size = len(reach.past(house)) + sum(a in reach.past(house) for a, b in net.links if b in reach.past(house))
            self.assertEqual(len(whole), 1 + patience * size)
            self.same(lone_schedule(machine, net, house, deed, 0), (("begin", house, deed),))
            answered += number is not None
        self.assertTrue(20 < answered < 110)

    def test_memory_rounds(self):
        """[14], [187]: the lone run of a Memory is answered in the round that rounds_told tells."""
        pick = random.Random(2)
        for net, _ in some_nets(42, 60, 5):
            for house in net.alive:
                machine = Memory(crossing_for(pick, net.houses))
                for deed in DEEDS:
                    told = rounds_told(machine, net, house, deed)
                    self.same(lone_round(machine, net, house, deed, 40), told)
                    if told is not None and told > 1:
                        self.same(lone_round(machine, net, house, deed, told - 1), None)
                        self.same(lone_round(machine, net, house, deed, told), told)

    def test_patience(self):
        """A patience of 1 and of 200; the first one beyond; rounds from 0 to 200."""
        net = Net(1, Pattern())
        quick, deaf, slow = Told.read(1, QUICK), Told.read(1, DEAF), Told.read(1, SLOW)
        self.same(lone_round(quick, net, 0, DEEDS[0], 1), 1)
        self.same([lone_round(slow, net, 0, DEEDS[0], k) for k in (1, 2, 3)], [None, None, 3])
        self.same(lone_round(deaf, net, 0, DEEDS[0], 200), None)
        self.assertEqual(len(lone_schedule(deaf, net, 0, DEEDS[0], 200)), 201)
        for value in (0, 201, -1, 10 ** 20) + NO_NUMBERS:
            self.raises(BadNumber("patience"), lone_round, quick, net, 0, DEEDS[0], value)
            self.raises(BadNumber("patience"), lone_answered, quick, net, 0, DEEDS[0], value)
        for value in (201, -1) + NO_NUMBERS:
            self.raises(BadNumber("rounds"), lone_schedule, quick, net, 0, DEEDS[0], value)

    def test_order_of_errors(self):
        """The house, what the world refuses, the last argument."""
        net = Net(3, Pattern([1]))
        quick = Told.read(3, QUICK)
        for call in (lone_round, lone_schedule, lone_answered):
            for value in (3, -1) + NO_NUMBERS:
                self.raises(BadHouse(value), call, quick, net, value, None, None)
            self.raises(IsFallen(1), call, quick, net, 1, None, None)
            self.raises(BadEvent(), call, quick, net, 0, None, None)
            self.raises(BadEvent(), call, quick, net, 0, ["get", 0], 5)
            self.raises(NotAdmitted(0), call, quick, net, 0, ("get", 1), None)
            self.raises(NotAdmitted(2), call, Gossip(3), net, 2, ("get", 0), None)
            self.raises(BadNumber("rounds" if call is lone_schedule else "patience"), call, quick, net, 0, ("get", 0), None)

    def test_alone_in_the_past(self):
        """A house that no other one reaches; a deed that needs no sheet."""
        net = Net(2, Pattern((), [(1, 0)]))
        self.same(lone_schedule(Told.read(2, DEAF), net, 0, DEEDS[0], 2), (("begin", 0, DEEDS[0]), ("tick", 0), ("tick", 0)))

    def test_hanging(self):
        """[221]: an event hangs on another one if that one is in its past."""
        pick = random.Random(3)
        for world in some_worlds(44, 60, 40):
            events = list(world)
            pasts = [past_by(events, time) for time in range(len(events))]
            for time in range(len(events)):
                wanted = tuple(t for t in range(len(events)) if time in pasts[t])
                self.same(hanging_times(pick.choice((events, tuple(events))), time), wanted)
            for _ in range(20 if events else 0):
                first, last = pick.randrange(len(events)), pick.randrange(len(events))
                times = [t for t in range(len(events)) if first in pasts[t] and t in pasts[last]]
                self.same(chain_houses(events, first, last), tuple(sorted({house_by(events[t]) for t in times})))

    def test_times(self):
        events = (("tick", 0), ("tick", 1))
        for value in (2, -1) + NO_NUMBERS:
            self.raises(BadNumber("time"), hanging_times, events, value)
            self.raises(BadNumber("time"), chain_houses, events, value, 0)
            self.raises(BadNumber("time"), chain_houses, events, 0, value)
        self.raises(BadNumber("time"), hanging_times, (), 0)
        self.same([chain_houses(events, 0, 1), chain_houses(events, 1, 0), chain_houses(events, 1, 1)], [(), (), (1,)])

    def test_chain_is_the_echo(self):
        """[221]: of a lone run that is answered in round Q, the chain houses are ECHO(h, Q - 1)."""
        pick = random.Random(5)
        many = 0
        for net, reach in some_nets(45, 150, 5):
            if not net.alive:
                continue
            machine = some_machine(pick, net.houses)
            house, deed = pick.choice(net.alive), pick.choice(DEEDS)
            number = lone_round(machine, net, house, deed, 20)
            if number is not None:
                schedule = lone_answered(machine, net, house, deed, 20)
                self.same(chain_houses(schedule, 0, len(schedule) - 1), reach.echo(house, number - 1))
                many += number > 1
        self.assertGreater(many, 20)

    def test_other_answers(self):
        """A machine that answers where there is no deed; only the answer of the house's deed counts."""
        net = Net(2, Pattern())

        class Often(Log):
            def tick(self, state, me):
                return (state, "tick", me), 5 if me == 1 else None

        self.same(lone_round(Often(2), net, 0, ("get", 0), 5), None)
        self.same(lone_round(Often(2), net, 1, ("get", 0), 5), 1)

    def test_answers_that_are_no_numbers(self):
        """False, 0 and () are answers, too."""
        for value in (False, 0, (), ""):
            class Answers(Machine):
                def tick(self, state, me):
                    return state, value

                def admits(self, me, deed):
                    return is_deed(deed, "get", 1)

            self.same(lone_round(Answers(1), Net(1, Pattern()), 0, ("get", 0), 5), 1)
            schedule = lone_answered(Answers(1), Net(1, Pattern()), 0, ("get", 0), 5)
            self.same(run(Answers(1), schedule).history()[0][4], value)


if __name__ == "__main__":
    unittest.main()
