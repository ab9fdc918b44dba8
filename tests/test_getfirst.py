"""Points [220], [226], [227] and [289]: a get that has not heard of a put."""

import random
import unittest

from silentlinks.books import Book
from silentlinks.compiled import memory_text
from silentlinks.errors import BadNumber, BadPaper, NotAdmitted, NotAPlace
from silentlinks.getfirst import apart_runs, get_first, get_first_of
from silentlinks.judges import Judge
from silentlinks.lone import chain_houses, lone_answered, lone_schedule
from silentlinks.machines import Gossip
from silentlinks.memory import Memory
from silentlinks.papers import Mute, TwoRuns
from silentlinks.patterns import Pattern
from silentlinks.stretches import round_events
from silentlinks.texts import book_from
from silentlinks.told import Told
from silentlinks.views import view
from silentlinks.worlds import World, run
from breaking import DEAF, QUICK, broken_books, lots_for, net_at, some_machine, told_of, wild_schedule
from runs import house_by, past_by
from support import NO_NUMBERS, LinksCase, Reach, some_pattern

PUT, GET = ("put", 0, 1), ("get", 0)
CUT = book_from("houses 2\npattern silent 0>1 1>0")


def get_first_by(machine, book, schedule, writer, patience):
    """[226], word by word; None if the past of writer has a chain house."""
    start = [time for time, event in enumerate(schedule) if event[0] == "begin"][0]
    last = len(schedule) - 1
    past = Reach(book.houses, book.patterns[writer[0]]).past(writer[1])
    hanging = [time for time in range(len(schedule)) if start in past_by(schedule, time)]
    if set(past) & {house_by(schedule[time]) for time in hanging if time in past_by(schedule, last)}:
        return None
    times = [time for time in past_by(schedule, last) if schedule[time][0] not in ("fall", "wake", "hush")]
    world = run(machine, [schedule[time] for time in times if time not in hanging])
    behind = [schedule[time] for time in times if time in hanging]
    begun = world.clock
    world.do(("begin", writer[1], PUT))
    for _ in range(patience):
        for event in round_events(world, net_at(book, writer), past):
            world.do(event)
            if event == ("tick", writer[1]) and world.deed(writer[1]) is None:
                return TwoRuns(book, list(world) + behind, writer[0], writer[1], schedule[start][1], begun)
    return Mute(book, tuple(world), writer[0], writer[1], begun)


class GetFirst(LinksCase):
    def same_paper(self, got, wanted):
        self.assertEqual(got is None, wanted is None)
        if wanted is not None:
            self.assertIs(got.book, wanted.book)
            self.same(told_of(got), told_of(wanted))

    def test_lone_gets(self):
        """get_first: the lone get of the reader, and the paper of [226] or its Mute; each one is taken."""
        seen = {}
        for pick, book in broken_books(71, 500):
            machine = some_machine(pick, book.houses)
            places = [(i, h) for i, p in enumerate(book.patterns) for h in p.standing(book.houses)]
            reader, writer, patience = pick.choice(places), pick.choice(places), pick.randint(1, 12)
            paper = get_first(machine, book, reader, pick.choice((writer, list(writer))), patience)
            schedule = lone_answered(machine, net_at(book, reader), reader[1], GET, patience)
            if schedule is None:
                whole = lone_schedule(machine, net_at(book, reader), reader[1], GET, patience)
                self.same_paper(paper, Mute(book, whole, reader[0], reader[1], 0))
            else:
                self.same_paper(paper, get_first_by(machine, book, schedule, writer, patience))
            key = None if paper is None else (paper.KIND, schedule is None)
            seen[key] = seen.get(key, 0) + 1
            if paper is not None:
                self.assertIs(Judge(machine, book)(paper), True)
        self.assertEqual(set(seen), {None, ("mute", True), ("mute", False), ("two runs", False)})
        self.assertGreater(min(seen.values()), 1)

    def test_any_schedule(self):
        """get_first_of with schedules that have falls, wakes, hushes, late and doubled sheets; unlike views."""
        seen = {}
        for pick, book in broken_books(72, 500):
            machine = some_machine(pick, book.houses)
            pattern = pick.choice((None, some_pattern(pick, book.houses)))
            schedule = wild_schedule(pick, machine, pick.randrange(book.houses), GET, 60, pattern)
            if schedule is None:
                continue
            for writer in [(i, h) for i, p in enumerate(book.patterns) for h in p.standing(book.houses)]:
                told = pick.choice((schedule, list(schedule)))
                paper = get_first_of(machine, book, told, writer, 6)
                self.same_paper(paper, get_first_by(machine, book, schedule, writer, 6))
                seen[paper and paper.KIND] = seen.get(paper and paper.KIND, 0) + 1
                if paper is None:
                    continue
                self.assertIs(Judge(machine, book)(paper), True)
                if paper.KIND == "two runs":
                    past = Reach(book.houses, book.patterns[writer[0]]).past(writer[1])
                    world, less = run(machine, paper.schedule), run(machine, paper.without())
                    unlike = [h for h in range(book.houses) if view(world, h) != view(less, h)]
                    self.assertTrue(set(unlike) <= set(past))
        self.assertEqual(set(seen), {None, "mute", "two runs"})

    def test_exactly(self):
        """What does not hang on the begin comes first, then the put and its rounds, then the rest."""
        quick = Told.read(2, QUICK)
        schedule = [("tick", 1), ("tick", 1), ("tick", 0), ("begin", 0, GET), ("hand", 1, 1, 0), ("hush", 0, 1), ("tick", 0)]
        paper = get_first_of(quick, CUT, schedule, (0, 1), 24)
        self.same(paper.schedule, (
            ("tick", 1), ("tick", 0), ("begin", 1, PUT), ("tick", 1), ("begin", 0, GET), ("hand", 1, 1, 0), ("tick", 0)))
        self.same((paper.number, paper.writer, paper.reader, paper.start), (0, 1, 0, 2))

        class Gets(Told):
            def tick(self, state, me):
                later, answer = super().tick(state, me)
                return (later, answer) if state[1] != 2 else (state, None)

        mute = get_first_of(Gets.read(2, QUICK), CUT, schedule, (0, 1), 3)
        self.same(mute.schedule, (("tick", 1), ("tick", 0), ("begin", 1, PUT)) + (("tick", 1),) * 3)
        self.same((mute.KIND, mute.number, mute.house, mute.start), ("mute", 0, 1, 2))

    def test_wrong_schedules(self):
        """BadPaper() if the schedule is not as [226] says, ahead of the errors of writer and patience."""
        quick = Told.read(2, QUICK)
        good = (("begin", 0, GET), ("tick", 0))
        wrong = [None, 5, "ab", (), good[:1], good + (("tick", 0),), good + good, (("begin", 0, PUT), ("tick", 0)), [None],
                 (("begin", 1, GET),) + good, (("begin", 0, ("get", False)), ("tick", 0)), (("hand", 0, 1, 1),) + good]
        for schedule in wrong:
            self.raises(BadPaper(), get_first_of, quick, CUT, schedule, None, None)
        for value in (None, (0,), (0, 2), (1, 0), (0, 0, 0), "ab", (0, True)):
            self.raises(NotAPlace(0), get_first_of, quick, CUT, good, value, None)
        for value in (0, 201) + NO_NUMBERS:
            self.raises(BadNumber("patience"), get_first_of, quick, CUT, good, (0, 1), value)
            self.raises(BadNumber("patience"), get_first_of, quick, CUT, good, (0, 0), value)
        self.same(get_first_of(quick, CUT, good, (0, 0), 24), None)

    def test_order_of_errors(self):
        book = Book(2, [Pattern([1]), Pattern((), [(0, 1), (1, 0)])])
        quick = Told.read(2, QUICK)
        for call in (get_first, apart_runs):
            for value in (None, (0, 1), (2, 0), (0, 0, 1), 5):
                self.raises(NotAPlace(0), call, quick, book, value, None, None)
                self.raises(NotAPlace(1), call, quick, book, [0, 0], value, None)
            for value in (0, 201) + NO_NUMBERS:
                self.raises(BadNumber("patience"), call, Gossip(2), book, (0, 0), (1, 1), value)
            self.raises(NotAdmitted(0), call, Gossip(2), book, (0, 0), (1, 1), 24)

        class GetsAlone(Told):
            def admits(self, me, deed):
                return deed == GET

        class PutsAlone(Told):
            def admits(self, me, deed):
                return deed == PUT

        self.raises(NotAdmitted(0), get_first, GetsAlone.read(2, QUICK), book, (1, 1), (0, 0), 24)
        self.same(get_first(GetsAlone.read(2, QUICK), book, (0, 0), (1, 0), 24), None)
        self.assertEqual(get_first(GetsAlone.read(2, DEAF), book, (1, 1), (0, 0), 24).KIND, "mute")
        self.raises(NotAdmitted(0), apart_runs, PutsAlone.read(2, QUICK), book, (1, 1), (0, 0), 24)
        self.raises(NotAdmitted(0), apart_runs, PutsAlone.read(2, QUICK), book, (1, 0), (0, 0), 24)
        self.assertEqual(apart_runs(PutsAlone.read(2, DEAF), book, (1, 1), (0, 0), 24).KIND, "mute")

    def test_apart(self):
        """apart_runs: the Mutes in order, None if some house has to do with both, else what both depend on."""
        seen = {}
        for pick, book in broken_books(73, 500):
            machine = some_machine(pick, book.houses)
            places = [(i, h) for i, p in enumerate(book.patterns) for h in p.standing(book.houses)]
            writer, reader, patience = pick.choice(places), pick.choice(places), pick.randint(1, 12)
            paper = apart_runs(machine, book, writer, reader, patience)
            put = lone_answered(machine, net_at(book, writer), writer[1], PUT, patience)
            get = lone_answered(machine, net_at(book, reader), reader[1], GET, patience)
            if put is None:
                whole = lone_schedule(machine, net_at(book, writer), writer[1], PUT, patience)
                wanted = Mute(book, whole, writer[0], writer[1], 0)
            elif get is None:
                whole = lone_schedule(machine, net_at(book, reader), reader[1], GET, patience)
                wanted = Mute(book, whole, reader[0], reader[1], 0)
            else:
                first = [put[time] for time in past_by(put, len(put) - 1)]
                later = [get[time] for time in past_by(get, len(get) - 1)]
                wanted = None
                if not {house_by(event) for event in first} & {house_by(event) for event in later}:
                    wanted = TwoRuns(book, first + later, reader[0], writer[1], reader[1], 0)
            self.same_paper(paper, wanted)
            key = paper and (paper.KIND, put is None)
            seen[key] = seen.get(key, 0) + 1
            if paper is not None:
                self.assertIs(Judge(machine, book)(paper), True)
            if wanted is not None and wanted.KIND == "two runs":
                world, less = run(machine, paper.schedule), run(machine, paper.without())
                chain = chain_houses(put, 0, len(put) - 1)
                self.assertTrue({h for h in range(book.houses) if view(world, h) != view(less, h)} <= set(chain))
        self.assertEqual(set(seen), {None, ("mute", True), ("mute", False), ("two runs", False)})

    def test_programs_of_memories(self):
        """[289]: with the program of a Memory get_first returns what it returns with the Memory."""
        pick = random.Random(9)
        seen = set()
        for _, book in broken_books(74, 200, 3):
            lots = lots_for(pick, book.houses)
            places = [(i, h) for i, p in enumerate(book.patterns) for h in p.standing(book.houses)]
            memory, told = Memory(lots), Told.read(book.houses, memory_text(lots))
            for _ in range(4):
                reader, writer = pick.choice(places), pick.choice(places)
                one, other = [get_first(machine, book, reader, writer, 10) for machine in (memory, told)]
                seen.add(one and one.KIND)
                self.same_paper(other, one)
        self.assertEqual(seen, {None, "mute", "two runs"})

    def test_world_is_fresh(self):
        """Asked twice, the same paper."""
        machine = Told.read(2, QUICK)
        one, other = [get_first(machine, CUT, (0, 0), (0, 1), 24) for _ in range(2)]
        self.same(told_of(one), told_of(other))
        self.same(World(machine).clock, 0)


if __name__ == "__main__":
    unittest.main()
