"""Points [220], [227] and [233]: machines that answer before a chain can come."""

import random
import unittest

from silentlinks.books import Book
from silentlinks.errors import BadNumber, NotAdmitted, NotAPlace
from silentlinks.judges import Judge
from silentlinks.lone import chain_houses, lone_answered
from silentlinks.machines import Gossip
from silentlinks.memory import Memory
from silentlinks.papers import TwoRuns
from silentlinks.patterns import Pattern
from silentlinks.stretches import round_events
from silentlinks.swift import get_then_put, put_then_get
from silentlinks.told import Told
from silentlinks.worlds import World, run
from breaking import DEAF, QUICK, broken_books, crossing_for, net_at, some_machine, told_of
from runs import past_by
from support import NO_NUMBERS, LinksCase, Reach

PUT, GET = ("put", 0, 1), ("get", 0)


def rounds_by(world, book, place, patience):
    """Does rounds of the place in the world up to the tick that answers; the number of its round, or None."""
    past = Reach(book.houses, book.patterns[place[0]]).past(place[1])
    for number in range(1, patience + 1):
        for event in round_events(world, net_at(book, place), past):
            world.do(event)
            if event == ("tick", place[1]) and world.deed(place[1]) is None:
                return number
    return None


def is_near(book, place, houses, limit):
    far = Reach(book.houses, book.patterns[place[0]]).far
    return any(far.get((x, place[1])) is not None and far[x, place[1]] <= limit for x in houses)


def put_then_get_by(machine, book, writer, reader, patience):
    put = lone_answered(machine, net_at(book, writer), writer[1], PUT, patience)
    if put is None:
        return None
    world = run(machine, [put[time] for time in past_by(put, len(put) - 1)])
    pattern = book.patterns[reader[0]]
    for event in [("fall", h) for h in pattern.fallen] + [("hush", a, b) for a, b in pattern.silent]:
        world.do(event)
    world.do(("begin", reader[1], GET))
    number = rounds_by(world, book, reader, patience)
    if number is None or is_near(book, reader, chain_houses(put, 0, len(put) - 1), number - 1):
        return None
    return TwoRuns(book, tuple(world), reader[0], writer[1], reader[1], 0)


def get_then_put_by(machine, book, reader, writer, patience):
    get = lone_answered(machine, net_at(book, reader), reader[1], GET, patience)
    if get is None:
        return None
    times = past_by(get, len(get) - 1)
    hanging = [time for time in times if 0 in past_by(get, time)]
    world = run(machine, [get[time] for time in times if time not in hanging])
    begun = world.clock
    world.do(("begin", writer[1], PUT))
    number = rounds_by(world, book, writer, patience)
    if number is None or is_near(book, writer, chain_houses(get, 0, len(get) - 1), number - 1):
        return None
    events = tuple(world)
    kept = [time for time in range(len(events)) if time < begun or time in past_by(events, len(events) - 1)]
    rows = [events[time] for time in kept] + [get[time] for time in hanging]
    return TwoRuns(book, rows, writer[0], writer[1], reader[1], begun)


class Swift(LinksCase):
    def check(self, call, plain, seed):
        seen = {True: 0, False: 0}
        met = 0
        for pick, book in broken_books(seed, 700):
            machine = some_machine(pick, book.houses)
            places = [(i, h) for i, p in enumerate(book.patterns) for h in p.standing(book.houses)]
            one, other, patience = pick.choice(places), pick.choice(places), pick.randint(1, 12)
            paper, wanted = call(machine, book, one, list(other), patience), plain(machine, book, one, other, patience)
            self.assertEqual(paper is None, wanted is None)
            seen[paper is None] += 1
            if paper is not None:
                self.same(told_of(paper), told_of(wanted))
                self.assertIs(Judge(machine, book)(paper), True)
                nets = [Reach(book.houses, pattern) for pattern in book.patterns]
                met += bool(set(nets[one[0]].part(one[1])) & set(nets[other[0]].past(other[1])))
        self.assertGreater(min(seen.values()), 20)
        self.assertGreater(met, 2)

    def test_put_then_get(self):
        """Made as in put_first, also if the past of reader has chain houses, unless one is near enough."""
        self.check(put_then_get, put_then_get_by, 81)

    def test_get_then_put(self):
        """Made as in get_first, with only those events of the rounds on which the answer to the put depends."""
        self.check(get_then_put, get_then_put_by, 82)

    def test_memory(self):
        """[233]: None for a Memory whose lots cross."""
        pick = random.Random(3)
        answered = 0
        for _, book in broken_books(83, 120):
            machine = Memory(crossing_for(pick, book.houses))
            places = [(i, h) for i, p in enumerate(book.patterns) for h in p.standing(book.houses)]
            for _ in range(3):
                one, other = pick.choice(places), pick.choice(places)
                answered += lone_answered(machine, net_at(book, one), one[1], PUT, 30) is not None
                self.same(put_then_get(machine, book, one, other, 30), None)
                self.same(get_then_put(machine, book, one, other, 30), None)
        self.assertGreater(answered, 50)

    def test_a_chain_that_comes_late(self):
        """In a row of three houses a quick get hears nothing of a quick put two links away."""
        book = Book(3, [Pattern((), [(0, 2), (2, 0)])])
        quick = Told.read(3, QUICK)
        paper = put_then_get(quick, book, (0, 0), (0, 2), 5)
        self.same(paper.schedule[:2] + paper.schedule[-2:], (("begin", 0, PUT), ("tick", 0), ("tick", 1), ("tick", 2)))
        self.same(put_then_get(quick, book, (0, 0), (0, 0), 5), None)
        paper = get_then_put(quick, book, (0, 0), (0, 2), 5)
        self.same(paper.schedule, (("begin", 2, PUT), ("tick", 2), ("begin", 0, GET), ("tick", 0)))

    def test_errors(self):
        """[220]: places, patience, NotAdmitted; None where a deed is not answered, and then no second deed."""
        book = Book(2, [Pattern([1]), Pattern((), [(0, 1), (1, 0)])])
        quick, deaf = Told.read(2, QUICK), Told.read(2, DEAF)

        class PutsAlone(Told):
            def admits(self, me, deed):
                return deed == PUT

        class GetsAlone(Told):
            def admits(self, me, deed):
                return deed == GET

        for call, other in ((put_then_get, PutsAlone), (get_then_put, GetsAlone)):
            for value in (None, (0, 1), (2, 0), (0, 0, 1), 5):
                self.raises(NotAPlace(0), call, quick, book, value, None, None)
                self.raises(NotAPlace(1), call, quick, book, [0, 0], value, None)
            for value in (0, 201) + NO_NUMBERS:
                self.raises(BadNumber("patience"), call, Gossip(2), book, (0, 0), (1, 1), value)
            self.raises(NotAdmitted(1), call, Gossip(2), book, (1, 1), (0, 0), 24)
            self.raises(NotAdmitted(0), call, other.read(2, QUICK), book, (1, 1), (0, 0), 24)
            self.same(call(other.read(2, DEAF), book, (1, 1), (0, 0), 24), None)
            self.same(call(deaf, book, (1, 1), (0, 0), 24), None)
        self.same(World(quick).clock, 0)


if __name__ == "__main__":
    unittest.main()
