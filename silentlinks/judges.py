"""Judges of papers."""

from silentlinks.amounts import is_below, is_number, same_value
from silentlinks.errors import BadPaper
from silentlinks.nets import is_alive, net_of
from silentlinks.papers import Mute, Odd, TwoRuns
from silentlinks.parts import past
from silentlinks.stretches import Within, do_all, round_events
from silentlinks.views import view
from silentlinks.worlds import done_world, run

# For the first deed of two runs, the one that is left out in the run without it, the deed of the reader.
LATER_DEEDS = {("put", 0, 1): ("get", 0), ("propose", 1): ("propose", 2)}


def is_house_told(house, told):
    """Whether told, of any kind, is the number of this house."""
    return is_number(told) and told == house


def record_begun(world, start):
    """The record of the deed begun at the time start, of any kind; None if there is none."""
    for record in world.history():
        if is_number(start) and record[2] == start:
            return record
    return None


def later_deed(deed):
    """The deed of the reader that fits the deed of a writer, None if the writer's is none of two runs."""
    for first in LATER_DEEDS:
        if same_value(deed, first):
            return LATER_DEEDS[first]
    return None


def round_states(machine, paper):
    """For each number of rounds behind the start of a Mute the states of the house's past, a list.

    None if the events behind start are not complete rounds.
    """
    net = net_of(paper.book, paper.number)
    houses = past(net, paper.house)
    world = run(machine, paper.schedule[:paper.start + 1])
    rows = [tuple([world.state(x) for x in houses])]
    while world.clock < len(paper.schedule):
        events = round_events(world, net, houses)
        if paper.schedule[world.clock:world.clock + len(events)] != events:
            return None
        do_all(world, events)
        rows.append(tuple([world.state(x) for x in houses]))
    return rows


def mute_fault(machine, world, paper):
    """The first word that holds against a Mute whose schedule is done and within its pattern, or None."""
    record = record_begun(world, paper.start)
    if record is None or record[0] != paper.house or record[3] is not None:
        return "begin"
    return "rounds" if round_states(machine, paper) is None else None


def other_records(world, start):
    """The records of all deeds but the one begun at the time start."""
    return [record for record in world.history() if record[2] != start]


def runs_fault(machine, world, paper):
    """The first word that holds against a TwoRuns whose schedule is done and within its pattern, or None."""
    record = record_begun(world, paper.start)
    if record is None or not is_house_told(record[0], paper.writer) or later_deed(record[1]) is None:
        return "begin"
    others = other_records(world, paper.start)
    if len(others) != 1 or not is_house_told(others[0][0], paper.reader):
        return "others"
    if not same_value(others[0][1], later_deed(record[1])):
        return "others"
    if record[3] is None or record[3] > others[0][2] or others[0][3] != len(paper.schedule) - 1:
        return "order"
    apart = run(machine, paper.without())
    return None if same_value(view(world, paper.reader), view(apart, paper.reader)) else "view"


def odd_fault(world, paper):
    """The first word that holds against an Odd whose schedule is done and within its pattern, or None."""
    history = world.history()
    if len(history) != 1 or history[0][0] != paper.house or history[0][2] != 0:
        return "begin"
    if not same_value(history[0][1], ("propose", 1)):
        return "begin"
    if history[0][3] != len(paper.schedule) - 1:
        return "order"
    return "own" if same_value(history[0][4], 1) else None


class Judge:
    """Tells whether papers hold against a machine and a book."""

    def __init__(self, machine, book):
        self.machine = machine
        self.book = book

    def __call__(self, paper):
        """Whether it takes the paper, a value of any kind."""
        return self.fault(paper) is None

    def fault(self, paper):
        """None if it takes the paper, otherwise the first word that holds against it."""
        if not isinstance(paper, (Mute, TwoRuns, Odd)) or not self.book == paper.book:
            return "kind"
        if not is_below(paper.number, len(self.book)):
            return "pattern"
        if not isinstance(paper, TwoRuns) and not is_alive(net_of(self.book, paper.number), paper.house):
            return "pattern"
        world = done_world(self.machine, paper.schedule)
        if world is None:
            return "done"
        within = Within(self.book[paper.number])
        if not within(paper.schedule):
            return "within"
        if isinstance(paper, Mute):
            return mute_fault(self.machine, world, paper)
        return runs_fault(self.machine, world, paper) if isinstance(paper, TwoRuns) else odd_fault(world, paper)

    def rounds_of(self, paper):
        """The number of rounds behind the start of a Mute that it takes; BadPaper() for anything else."""
        return len(self.states_of(paper)) - 1

    def states_of(self, paper):
        """The states behind each number of rounds of a Mute that it takes; BadPaper() for anything else."""
        if not isinstance(paper, Mute) or self.fault(paper) is not None:
            raise BadPaper()
        return round_states(self.machine, paper)

    def ring(self, paper):
        """After how many rounds of a Mute that it takes the states of others come again; None if they do not."""
        rows = self.states_of(paper)
        for late in range(len(rows)):
            for early in range(late):
                if same_value(rows[early], rows[late]):
                    return (early, late)
        return None

    def wrong(self, paper):
        """Which runs of a TwoRuns that it takes are wrong; BadPaper() for anything else."""
        if not isinstance(paper, TwoRuns) or self.fault(paper) is not None:
            raise BadPaper()
        world = run(self.machine, paper.schedule)
        first = record_begun(world, paper.start)
        told = other_records(world, paper.start)[0][4]
        agreeing = first[1][0] == "propose"
        words = []
        if not same_value(told, 1) or (agreeing and not same_value(first[4], 1)):
            words.append("with")
        if not same_value(told, 2 if agreeing else 0):
            words.append("without")
        return tuple(words)
