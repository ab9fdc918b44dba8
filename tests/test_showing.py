"""Point [284]: runs, papers, boards and books in lines."""

import random
import unittest

from silentlinks.agreeing import break_agreement
from silentlinks.breaker import break_claim
from silentlinks.claims import Claim
from silentlinks.errors import BadHouse, BadMachine, BadPaper, NotDone, NotTouring
from silentlinks.judges import Judge
from silentlinks.lots import Lots
from silentlinks.machines import Gossip, Machine
from silentlinks.memory import Memory
from silentlinks.papers import Mute, Odd
from silentlinks.showing import board_table, book_lines, event_line, paper_lines, run_lines
from silentlinks.texts import book_from, pattern_text
from silentlinks.tours import Touring
from silentlinks.told import Told
from silentlinks.worlds import World, run
from breaking import DEAF, QUICK, SEVEN
from runs import TOURS, some_worlds
from support import NO_NUMBERS, LinksCase, Reach, some_books
from touring import worlds

CUT = book_from("houses 2\npattern silent 0>1 1>0")
BOTH = Claim(CUT, [(0, 0), (0, 1)])


def line_by(event, answer):
    word = event[0]
    if word == "begin":
        return "house {} begins {}".format(event[1], " ".join(str(x) for x in event[2]))
    if word == "tick":
        told = " ".join(str(x) for x in answer) if isinstance(answer, tuple) else str(answer)
        return "house {} ticks".format(event[1]) + ("" if answer is None else " and is answered " + told)
    if word == "hand":
        return "house {3} hears sheet {2} of house {1}".format(*event)
    if word == "hush":
        return "the link {1}>{2} falls silent".format(*event)
    return "house {} {}s".format(event[1], word)


class Lines(LinksCase):
    def test_event_lines(self):
        rows = [
            (("begin", 0, ("put", 0, 5)), None, "house 0 begins put 0 5"),
            (("begin", 3, ("look",)), None, "house 3 begins look"),
            (("begin", 1, ("add_if", 2, -1, 0)), None, "house 1 begins add_if 2 -1 0"),
            (("tick", 0), None, "house 0 ticks"),
            (("tick", 0), 5, "house 0 ticks and is answered 5"),
            (("tick", 6), 0, "house 6 ticks and is answered 0"),
            (("tick", 6), (), "house 6 ticks and is answered "),
            (("tick", 2), (4, -1, 0), "house 2 ticks and is answered 4 -1 0"),
            (("tick", 2), False, "house 2 ticks and is answered False"),
            (("hand", 0, 3, 2), None, "house 2 hears sheet 3 of house 0"),
            (("fall", 1), None, "house 1 falls"),
            (("wake", 1), None, "house 1 wakes"),
            (("hush", 0, 1), None, "the link 0>1 falls silent"),
        ]
        for event, answer, wanted in rows:
            self.same(event_line(event, answer), wanted)

    def test_run_lines(self):
        """The lines of random runs, numbered from 1 in three columns."""
        for world in some_worlds(1, 30, 60):
            ends = {record[3]: record[4] for record in world.history()}
            wanted = [str(k + 1).rjust(3) + ". " + line_by(event, ends.get(k)) for k, event in enumerate(world)]
            self.same(run_lines(world.machine, list(world)), wanted)
            self.same(run_lines(world.machine, tuple(world)), wanted)
        self.same(run_lines(Gossip(1), ()), [])

    def test_looks(self):
        """The answer of a look is told by its members."""
        machine = Memory(Lots(1, [[0]], [[0]]), owners=(None, 0))
        events = [("begin", 0, ("put", 1, 7)), ("tick", 0), ("begin", 0, ("look",)), ("tick", 0)]
        self.same(run_lines(machine, events)[3], "  4. house 0 ticks and is answered 0 7")

    def test_answers_that_are_lost(self):
        """An answer where no deed is in progress is lost."""
        class Often(Machine):
            def tick(self, state, me):
                return state, 8

            def admits(self, me, deed):
                return True

        told = run_lines(Often(1), [("tick", 0), ("begin", 0, ("get", 0)), ("tick", 0), ("tick", 0)])
        self.same(told[0::2], ["  1. house 0 ticks", "  3. house 0 ticks and is answered 8"])
        self.same(told[3], "  4. house 0 ticks")

    def test_long_runs(self):
        """Runs of more than 999 events."""
        told = run_lines(Gossip(1), [("tick", 0)] * 1001)
        self.same([told[0], told[98], told[998], told[999], told[1000]], [
            "  1. house 0 ticks", " 99. house 0 ticks", "999. house 0 ticks", "1000. house 0 ticks", "1001. house 0 ticks"])

    def test_errors_of_runs(self):
        self.raises(BadMachine(), run_lines, None, None)
        self.raises(NotDone(1), run_lines, Gossip(1), [("tick", 0), ("tick", 1)])


class Papers(LinksCase):
    def test_mute(self):
        deaf = Told.read(2, DEAF)
        paper = break_claim(deaf, BOTH, patience=2)
        self.same(paper_lines(deaf, CUT, paper), [
            "house 1 waits (pattern 0)", "  1. house 1 begins put 0 1", "  2. house 1 ticks", "  3. house 1 ticks",
            "not answered in 2 rounds"])
        short = Mute(CUT, [("begin", 0, ("get", 0))], 0, 0, 0)
        self.same(paper_lines(deaf, CUT, short)[-1], "not answered in 0 rounds")

    def test_two_runs(self):
        quick = Told.read(2, QUICK)
        paper = break_claim(quick, BOTH)
        self.same(paper_lines(quick, CUT, paper), [
            "two runs (pattern 0): house 0 cannot tell them apart", "with the put of house 1:",
            "  1. house 1 begins put 0 1", "  2. house 1 ticks and is answered 1", "  3. the link 0>1 falls silent",
            "  4. the link 1>0 falls silent", "  5. house 0 begins get 0", "  6. house 0 ticks and is answered 0",
            "without it:", "  1. house 1 ticks", "  2. the link 0>1 falls silent", "  3. the link 1>0 falls silent",
            "  4. house 0 begins get 0", "  5. house 0 ticks and is answered 0", "house 0 is answered 0 in both", "wrong with it"])

    def test_proposes(self):
        """A TwoRuns of proposes in which both runs are wrong; an Odd."""
        class Own(Machine):
            def fresh(self, me):
                return None

            def begin(self, state, me, deed):
                return deed[1]

            def tick(self, state, me):
                return None, None if state is None else 1 if state == 1 else 7

            def admits(self, me, deed):
                return True

        machine = Own(2)
        paper = break_agreement(machine, BOTH)
        lines = paper_lines(machine, CUT, paper)
        self.same([lines[1], lines[2], lines[-3:]], [
            "with the propose of house 1:", "  1. house 1 begins propose 1",
            ["house 0 is answered 7 in both", "wrong with it", "wrong without it"]])
        seven = Told.read(2, SEVEN)
        self.same(paper_lines(seven, CUT, break_agreement(seven, BOTH)), [
            "house 1 is alone (pattern 0)", "  1. house 1 begins propose 1", "  2. house 1 ticks and is answered 7",
            "house 1 proposed 1 and is answered 7"])
        odd = Odd(CUT, [("begin", 0, ("propose", 1)), ("tick", 1), ("tick", 0)], 0, 0)
        self.same(paper_lines(seven, CUT, odd)[0], "house 0 is alone (pattern 0)")

    def test_bad_papers(self):
        deaf = Told.read(2, DEAF)
        paper = break_claim(deaf, BOTH)
        for value in (None, 5, "mute", Mute(CUT, paper.schedule, 0, 0, 0), Mute(CUT, paper.schedule, True, 1, 0)):
            self.raises(BadPaper(), paper_lines, deaf, CUT, value)
        self.raises(BadPaper(), paper_lines, Told.read(2, QUICK), CUT, paper)
        self.raises(BadPaper(), paper_lines, deaf, book_from("houses 2\npattern clear"), paper)
        self.same(Judge(deaf, CUT)(paper), True)


class Boards(LinksCase):
    def test_boards(self):
        pick = random.Random(2)
        rows = list(worlds(3, 12, 400)) + list(some_worlds(4, 6, 80, make_touring, 3, TOURS))
        for world in rows:
            for house in range(world.houses):
                wanted = []
                for x, (clock, heard, store) in enumerate(world.state(house)[0]):
                    wanted.append("house {} clock {} heard {} stamps {} values {}".format(
                        x, clock, " ".join(map(str, heard)), " ".join(f"{n}:{o}" for n, o, _ in store),
                        " ".join(str(v) for _, _, v in store)))
                self.same(board_table(world, house), wanted)
        self.assertTrue(pick.random() < 1)

    def test_errors(self):
        self.raises(NotTouring(), board_table, World(Gossip(2)), None)
        for value in (2, -1) + NO_NUMBERS:
            self.raises(BadHouse(value), board_table, World(Memory(Lots.majority(2))), value)

    def test_books(self):
        for book in some_books(5, 60):
            wanted = []
            for number, pattern in enumerate(book.patterns):
                wanted.append(f"pattern {number}: {pattern_text(pattern)}")
                reach = Reach(book.houses, pattern)
                for part in sorted({reach.part(h) for h in reach.alive}):
                    told = " ".join(map(str, part)), " ".join(map(str, reach.past(part[0])))
                    wanted.append("  part {} past {}".format(*told))
            self.same(book_lines(book), wanted)
        self.same(book_lines(book_from("houses 3\npattern silent 1>0 2>0 2>1\npattern fall 0 1 2")), [
            "pattern 0: silent 1>0 2>0 2>1", "  part 0 past 0", "  part 1 past 0 1", "  part 2 past 0 1 2",
            "pattern 1: fall 0 1 2"])

    def test_worlds_stay(self):
        world = run(Memory(Lots.majority(2)), [("tick", 0)])
        told = board_table(world, 0)
        told.pop()
        self.assertEqual(len(board_table(world, 0)), 2)


def make_touring(houses):
    return Touring(Lots.majority(houses))


if __name__ == "__main__":
    unittest.main()
