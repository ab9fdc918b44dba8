"""Points [220], [225], [227] and [289]: a put that a reader has not heard of."""

import random
import unittest

from silentlinks.books import Book
from silentlinks.compiled import memory_text
from silentlinks.errors import BadNumber, BadPaper, NotAdmitted, NotAPlace
from silentlinks.judges import Judge
from silentlinks.lone import chain_houses, lone_answered, lone_schedule
from silentlinks.lots import Lots
from silentlinks.machines import Gossip
from silentlinks.memory import Memory
from silentlinks.papers import Mute, TwoRuns
from silentlinks.patterns import Pattern
from silentlinks.putfirst import put_first, put_first_of
from silentlinks.stretches import round_events
from silentlinks.texts import book_from
from silentlinks.told import Told
from silentlinks.views import view
from silentlinks.worlds import World, run
from breaking import DEAF, QUICK, SLOW, broken_books, lots_for, net_at, some_machine, told_of, wild_schedule
from runs import past_by
from support import NO_NUMBERS, LinksCase, Reach, some_pattern

PUT, GET = ("put", 0, 1), ("get", 0)
CUT = book_from("houses 2\npattern silent 0>1 1>0")


def put_first_by(machine, book, schedule, reader, patience):
    """[225], word by word; None if the past of reader has a chain house."""
    start = [time for time, event in enumerate(schedule) if event[0] == "begin"][0]
    past = Reach(book.houses, book.patterns[reader[0]]).past(reader[1])
    if set(past) & set(chain_houses(schedule, start, len(schedule) - 1)):
        return None
    world = World(machine)
    for time in past_by(schedule, len(schedule) - 1):
        if schedule[time][0] not in ("fall", "wake", "hush"):
            world.do(schedule[time])
    for house in book.patterns[reader[0]].fallen:
        world.do(("fall", house))
    for a, b in book.patterns[reader[0]].silent:
        world.do(("hush", a, b))
    begun = world.clock
    world.do(("begin", reader[1], GET))
    for _ in range(patience):
        for event in round_events(world, net_at(book, reader), past):
            world.do(event)
            if event == ("tick", reader[1]) and world.deed(reader[1]) is None:
                put = [time for time, told in enumerate(world) if told[0] == "begin"][0]
                return TwoRuns(book, tuple(world), reader[0], schedule[start][1], reader[1], put)
    return Mute(book, tuple(world), reader[0], reader[1], begun)


class PutFirst(LinksCase):
    def same_paper(self, got, wanted):
        self.assertEqual(got is None, wanted is None)
        if wanted is not None:
            self.assertIs(got.book, wanted.book)
            self.same(told_of(got), told_of(wanted))

    def test_lone_puts(self):
        """put_first: the lone put of the writer, and the paper of [225] or its Mute; each one is taken."""
        seen = {}
        for pick, book in broken_books(61, 400):
            machine = some_machine(pick, book.houses)
            places = [(i, h) for i, p in enumerate(book.patterns) for h in p.standing(book.houses)]
            writer, reader, patience = pick.choice(places), pick.choice(places), pick.randint(1, 12)
            paper = put_first(machine, book, pick.choice((writer, list(writer))), reader, patience)
            schedule = lone_answered(machine, net_at(book, writer), writer[1], PUT, patience)
            if schedule is None:
                whole = lone_schedule(machine, net_at(book, writer), writer[1], PUT, patience)
                self.same_paper(paper, Mute(book, whole, writer[0], writer[1], 0))
            else:
                self.same_paper(paper, put_first_by(machine, book, schedule, reader, patience))
            key = None if paper is None else (paper.KIND, schedule is None)
            seen[key] = seen.get(key, 0) + 1
            if paper is not None:
                self.assertIs(Judge(machine, book)(paper), True)
        self.assertEqual(set(seen), {None, ("mute", True), ("mute", False), ("two runs", False)})
        self.assertGreater(min(seen.values()), 1)

    def test_any_schedule(self):
        """put_first_of with schedules that have falls, wakes, hushes, late and doubled sheets."""
        seen = {}
        for pick, book in broken_books(62, 500):
            machine = some_machine(pick, book.houses)
            pattern = pick.choice((None, some_pattern(pick, book.houses)))
            schedule = wild_schedule(pick, machine, pick.randrange(book.houses), PUT, 60, pattern)
            if schedule is None:
                continue
            for reader in [(i, h) for i, p in enumerate(book.patterns) for h in p.standing(book.houses)]:
                told = pick.choice((schedule, list(schedule)))
                paper = put_first_of(machine, book, told, reader, 6)
                self.same_paper(paper, put_first_by(machine, book, schedule, reader, 6))
                seen[paper and paper.KIND] = seen.get(paper and paper.KIND, 0) + 1
                if paper is not None:
                    self.assertIs(Judge(machine, book)(paper), True)
        self.assertEqual(set(seen), {None, "mute", "two runs"})

    def test_unlike_views(self):
        """[227]: only chain houses of the put have unlike views in the two runs."""
        many = 0
        for pick, book in broken_books(63, 300):
            machine = some_machine(pick, book.houses)
            places = [(i, h) for i, p in enumerate(book.patterns) for h in p.standing(book.houses)]
            paper = put_first(machine, book, pick.choice(places), pick.choice(places), 8)
            if paper is None or paper.KIND != "two runs":
                continue
            world, less = run(machine, paper.schedule), run(machine, paper.without())
            put = [r for r in world.history() if r[1] == PUT][0]
            chain = chain_houses(paper.schedule, put[2], put[3])
            unlike = [h for h in range(book.houses) if view(world, h) != view(less, h)]
            self.assertTrue(set(unlike) <= set(chain))
            many += 1
        self.assertGreater(many, 5)

    def test_alone_in_its_past(self):
        """A lone deed of a house alone in its past, and one that is never answered."""
        quick = Told.read(2, QUICK)
        paper = put_first(quick, CUT, (0, 0), (0, 1), 24)
        self.same(paper.schedule, (("begin", 0, PUT), ("tick", 0), ("hush", 0, 1), ("hush", 1, 0), ("begin", 1, GET), ("tick", 1)))
        self.same((paper.number, paper.writer, paper.reader, paper.start), (0, 0, 1, 0))
        deaf = put_first(Told.read(2, DEAF), CUT, (0, 0), (0, 1), 200)
        self.same(deaf.schedule, (("begin", 0, PUT),) + (("tick", 0),) * 200)
        self.same((deaf.number, deaf.house, deaf.start), (0, 0, 0))
        slow = put_first(Told.read(2, SLOW), CUT, (0, 0), (0, 1), 1)
        self.same(slow.schedule, (("begin", 0, PUT), ("tick", 0)))

    def test_wrong_schedules(self):
        """BadPaper() if the schedule is not as [225] says, ahead of the errors of reader and patience."""
        quick = Told.read(2, QUICK)
        good = (("begin", 0, PUT), ("tick", 0))
        wrong = [None, 5, "ab", {}, (), good[:1], good + (("tick", 0),), good + good, (("begin", 0, GET), ("tick", 0)), [None],
                 good + (("begin", 1, GET), ("tick", 1)), (("begin", 0, ("put", 0, 2)), ("tick", 0)), (("fall", 0),) + good,
                 (("begin", 1, GET),) + good, (("begin", 0, PUT), ("tick", True)), (("tick", 0),)]
        for schedule in wrong:
            self.raises(BadPaper(), put_first_of, quick, CUT, schedule, None, None)
        for value in (None, (0,), (0, 2), (1, 0), (0, 0, 0), "ab", (0, True), [False, 1], (0.0, 1)):
            self.raises(NotAPlace(0), put_first_of, quick, CUT, good, value, None)
        for value in (0, 201) + NO_NUMBERS:
            self.raises(BadNumber("patience"), put_first_of, quick, CUT, good, (0, 1), value)
            self.raises(BadNumber("patience"), put_first_of, quick, CUT, good, (0, 0), value)
        self.same(put_first_of(quick, CUT, good, (0, 0), 24), None)

    def test_order_of_errors(self):
        """[220]: the places, the patience, then NotAdmitted; the second deed only if the first one is answered."""
        book = Book(2, [Pattern([1]), Pattern((), [(0, 1), (1, 0)])])
        quick = Told.read(2, QUICK)
        for value in (None, (0, 1), (2, 0), (0, 0, 1), 5, [0], ("0", 0)):
            self.raises(NotAPlace(0), put_first, quick, book, value, None, None)
            self.raises(NotAPlace(1), put_first, quick, book, [0, 0], value, None)
        for value in (0, 201) + NO_NUMBERS:
            self.raises(BadNumber("patience"), put_first, Gossip(2), book, (0, 0), (1, 1), value)
        self.raises(NotAdmitted(0), put_first, Gossip(2), book, (0, 0), (1, 1), 24)
        owned = Memory(Lots(2, [[1]], [[1]]), owners=(0,))
        self.raises(NotAdmitted(1), put_first, owned, book, (1, 1), (0, 0), 24)

        class PutsAlone(Told):
            def admits(self, me, deed):
                return deed == PUT

        alone = PutsAlone.read(2, QUICK)
        self.raises(NotAdmitted(0), put_first, alone, book, (1, 1), (0, 0), 24)
        self.same(put_first(alone, book, (0, 0), (1, 0), 24), None)
        self.assertEqual(put_first(PutsAlone.read(2, DEAF), book, (1, 1), (0, 0), 24).KIND, "mute")

    def test_programs_of_memories(self):
        """[289]: with the program of a Memory put_first returns what it returns with the Memory."""
        pick = random.Random(8)
        seen = set()
        for _, book in broken_books(64, 200, 3):
            lots = lots_for(pick, book.houses)
            places = [(i, h) for i, p in enumerate(book.patterns) for h in p.standing(book.houses)]
            memory, told = Memory(lots), Told.read(book.houses, memory_text(lots))
            for _ in range(4):
                writer, reader = pick.choice(places), pick.choice(places)
                one, other = [put_first(machine, book, writer, reader, 10) for machine in (memory, told)]
                seen.add(one and one.KIND)
                self.same_paper(other, one)
        self.assertEqual(seen, {None, "mute", "two runs"})

    def test_nothing_is_changed(self):
        schedule = [("begin", 0, PUT), ("tick", 0)]
        reader = [0, 1]
        paper = put_first_of(Told.read(2, QUICK), CUT, schedule, reader, 5)
        schedule.pop()
        reader[1] = 0
        self.same(Judge(Told.read(2, QUICK), CUT)(paper), True)
        self.assertEqual(len(paper.schedule), 6)


if __name__ == "__main__":
    unittest.main()
