"""Points [222] to [224]: judges of papers."""

import random
import unittest

from silentlinks.agreeing import break_agreement
from silentlinks.books import Book
from silentlinks.breaker import break_claim
from silentlinks.claims import Claim
from silentlinks.errors import BadPaper
from silentlinks.judges import Judge
from silentlinks.machines import Machine
from silentlinks.memory import Memory
from silentlinks.nets import net_of
from silentlinks.papers import Mute, Odd, Paper, TwoRuns
from silentlinks.parts import past
from silentlinks.patterns import Pattern
from silentlinks.putfirst import put_first
from silentlinks.stretches import do_rounds, round_events
from silentlinks.texts import book_from
from silentlinks.told import Told
from silentlinks.worlds import World, run
from breaking import DEAF, QUICK, SEVEN, agreeing_machine, blind_pairs, broken_books, fault_by, some_machine, told_of
from support import NO_NUMBERS, LinksCase

CUT = book_from("houses 2\npattern silent 0>1 1>0")
OPEN = book_from("houses 2\npattern clear\npattern fall 1")
PUT, GET = ("put", 0, 1), ("get", 0)
ONE, TWO = ("propose", 1), ("propose", 2)


class Answers(Machine):
    """Answers each put with `put`, each get and propose with `get`, in its first tick; hears nothing."""

    def __init__(self, houses, put, get):
        self.houses, self.put, self.get = houses, put, get

    def fresh(self, me):
        return None

    def begin(self, state, me, deed):
        return deed[0]

    def tick(self, state, me):
        return None, None if state is None else self.put if state == "put" else self.get

    def admits(self, me, deed):
        return True


def some_papers(seed, many):
    """Papers that are taken, with their machines and books."""
    for pick, book in broken_books(seed, many):
        pairs = blind_pairs(book)
        if not pairs:
            continue
        (seer, seen) = pick.choice(pairs)
        if pick.random() < 0.5:
            machine = some_machine(pick, book.houses)
            yield pick, machine, book, put_first(machine, book, seen, seer, pick.randint(1, 12))
        else:
            machine = agreeing_machine(pick, book.houses)
            yield pick, machine, book, break_agreement(machine, Claim(book, [seer, seen]), patience=pick.randint(1, 12))


def altered(pick, paper):
    """The paper with one thing in it changed at random."""
    told = dict(vars(paper))
    name = pick.choice([key for key in told if key != "book"])
    if name == "schedule":
        events = list(told["schedule"])
        at = pick.randrange(len(events))
        way = pick.randrange(4)
        if way == 0:
            events.pop()
        elif way == 1:
            del events[at]
        elif way == 2:
            events.insert(at, pick.choice([("tick", 0), ("fall", 1), ("hush", 0, 1), ("wake", 0), ("begin", 1, GET)]))
        else:
            events.append(pick.choice(events))
        told["schedule"] = events
    else:
        told[name] = told[name] + pick.choice((-1, 1))
    return type(paper)(**told)


class Judges(LinksCase):
    def test_attributes(self):
        machine = Told.read(2, QUICK)
        judge = Judge(machine, CUT)
        self.assertIs(judge.machine, machine)
        self.assertIs(judge.book, CUT)

    def test_altered_papers(self):
        """[222]: papers that are taken, and papers with one thing changed, against a plain reading of the words."""
        seen = {}
        for pick, machine, book, paper in some_papers(51, 250):
            judge = Judge(machine, book)
            for told in [paper] + [altered(pick, paper) for _ in range(12)]:
                if told.KIND == "two runs" and not 0 <= told.start < len(told.schedule) or told.number < 0:
                    continue
                wanted = fault_by(machine, book, told)
                seen[told.KIND, wanted] = seen.get((told.KIND, wanted), 0) + 1
                self.same(judge.fault(told), wanted)
                self.same(judge(told), wanted is None)
        for key in [("mute", None), ("mute", "done"), ("mute", "begin"), ("mute", "rounds"), ("mute", "pattern"),
                    ("two runs", None), ("two runs", "begin"), ("two runs", "others"), ("two runs", "order"),
                    ("odd", None), ("odd", "begin"), ("odd", "order"), ("odd", "pattern")]:
            self.assertIn(key, seen)

    def test_kind(self):
        """Values of any kind; the base of all papers; another book, and an equal one."""
        judge = Judge(Told.read(2, DEAF), CUT)
        good = Mute(CUT, [("begin", 0, GET)], 0, 0, 0)
        self.assertIs(judge(good), True)
        self.assertIs(judge(Mute(Book(2, [Pattern((), [(1, 0), (0, 1)])]), good.schedule, 0, 0, 0)), True)
        others = [None, 5, "mute", (), judge, CUT, Mute, Paper(CUT, good.schedule), Mute(OPEN, good.schedule, 0, 0, 0),
                  Mute(None, good.schedule, 0, 0, 0), vars(good), Mute(5, (None,), True, True, True)]
        for value in others:
            self.same([judge(value), judge.fault(value)], [False, "kind"])
            for call in (judge.rounds_of, judge.ring, judge.wrong):
                self.raises(BadPaper(), call, value)

    def test_pattern(self):
        """True and False name no pattern and no house; a house that is fallen; the kind comes first."""
        judge = Judge(Told.read(2, DEAF), OPEN)
        events = [("begin", 0, GET)]
        for value in NO_NUMBERS + (2, -1):
            self.same(judge.fault(Mute(OPEN, events, value, 0, 0)), "pattern")
            self.same(judge.fault(Odd(OPEN, (None,), value, 0)), "pattern")
            self.same(judge.fault(TwoRuns(OPEN, (None,), value, 0, 1, 0)), "pattern")
            self.same(judge.fault(Mute(OPEN, events, 0, value, 0)), "pattern")
            self.same(judge.fault(Odd(OPEN, events, 0, value)), "pattern")
        self.same(judge.fault(Mute(OPEN, (None,), 1, 1, 0)), "pattern")
        self.same(judge.fault(Mute(OPEN, (None,), 0, 1, 0)), "done")
        self.same(judge.fault(TwoRuns(OPEN, (None,), 0, None, None, None)), "done")

    def test_done_and_within(self):
        judge = Judge(Told.read(2, DEAF), OPEN)
        begin = ("begin", 0, GET)
        for event in (None, 5, ("tick", True), ("tick", 2), ("hand", 0, 1, 1), ("wake", 0), begin, ("begin", 1, ("look",)), ()):
            self.same(judge.fault(Mute(OPEN, [("fall", 0), ("wake", 0), begin, event], 0, 0, 2)), "done")
        self.same(judge.fault(Mute(OPEN, [("fall", 1), begin], 0, 0, 1)), "within")
        self.same(judge.fault(Mute(OPEN, [("fall", 1), begin], 1, 0, 1)), None)
        self.same(judge.fault(Mute(OPEN, [("hush", 0, 1), begin], 1, 0, 1)), "within")
        self.same(Judge(Told.read(2, DEAF), CUT).fault(Mute(CUT, [("hush", 0, 1), begin], 0, 0, 1)), None)

    def test_mute_begin(self):
        """A start that is moved, that is no number, that is another house's; a deed that is answered."""
        deaf = Judge(Told.read(2, DEAF), CUT)
        events = [("tick", 1), ("begin", 0, GET), ("tick", 0), ("tick", 0)]
        self.same(deaf.fault(Mute(CUT, events, 0, 0, 1)), None)
        for value in NO_NUMBERS + (0, 2, 3, 4, -3, 10 ** 9):
            self.same(deaf.fault(Mute(CUT, events, 0, 0, value)), "begin")
        self.same(deaf.fault(Mute(CUT, events, 0, 1, 1)), "begin")
        self.same(Judge(Told.read(2, QUICK), CUT).fault(Mute(CUT, events, 0, 0, 1)), "begin")
        self.same(Judge(Told.read(2, QUICK), CUT).fault(Mute(CUT, events[:2], 0, 0, 1)), None)
        self.same(deaf.fault(Mute(CUT, (), 0, 0, 0)), "begin")
        self.same(deaf.fault(Mute(CUT, events[:1] + [("begin", 0, ("tour", 4))] + events[2:], 0, 0, 1)), None)

    def test_rounds(self):
        """A Mute of 0 rounds and of more; the last event left out; events of another kind; other houses."""
        machine, net = Told.read(2, DEAF), net_of(OPEN, 0)
        world = World(machine)
        world.do(("tick", 0))
        world.do(("begin", 1, PUT))
        judge = Judge(machine, OPEN)
        for many in range(4):
            paper = Mute(OPEN, list(world), 0, 1, 1)
            self.same([judge(paper), judge.rounds_of(paper)], [True, many])
            for left in range(1, 5 if many else 1):
                self.same(judge.fault(Mute(OPEN, list(world)[:-left], 0, 1, 1)), "rounds" if left < 4 else None)
            do_rounds(world, net, (0, 1), 1)
        for event in (("tick", 0), ("hand", 0, 1, 1), ("hand", 1, 1, 0), ("begin", 0, GET)):
            self.same(judge.fault(Mute(OPEN, list(world) + [event], 0, 1, 1)), "rounds")
        old = list(world)
        old[-2] = ("hand", 0, 1, 1)
        self.same(judge.fault(Mute(OPEN, old, 0, 1, 1)), "rounds")

    def test_ring(self):
        """[224]: the first states that come again, 0 rounds counted; None if none do."""
        self.same(Judge(Told.read(2, DEAF), CUT).ring(Mute(CUT, [("begin", 0, GET), ("tick", 0)], 0, 0, 0)), (0, 1))
        self.same(Judge(Told.read(2, DEAF), CUT).ring(Mute(CUT, [("begin", 0, GET)], 0, 0, 0)), None)
        counting = "machine count\ncells c d\ntick\n  c = c + 1\n  if c = 7\n    c = 4\n    d = 1"
        judge = Judge(Told.read(2, counting), CUT)
        events = [("begin", 0, GET)] + [("tick", 0)] * 12
        for many in range(13):
            ring = judge.ring(Mute(CUT, events[:many + 1], 0, 0, 0))
            # c goes 1 .. 6, 4, 5, 6, 4 ..; with d the first 4 is another one.
            self.same(ring, (7, 10) if many >= 10 else None)
        forever = Judge(Told.read(2, "machine up\ncells c\ntick\n  c = c + 1"), CUT)
        paper = Mute(CUT, events, 0, 0, 0)
        self.same([forever.ring(paper), forever.rounds_of(paper)], [None, 12])

    def test_ring_goes_on(self):
        """[224]: with a ring the house is never answered, and the states go round."""
        many = 0
        for pick, machine, book, paper in some_papers(52, 150):
            judge = Judge(machine, book)
            ring = judge.ring(paper) if paper.KIND == "mute" else None
            if ring is None:
                continue
            many += 1
            net, houses = net_of(book, paper.number), past(net_of(book, paper.number), paper.house)
            world, states = run(machine, paper.schedule[:paper.start + 1]), []
            for _ in range(ring[1] + 30):
                states.append([world.state(x) for x in houses])
                do_rounds(world, net, houses, 1)
            i, j = ring
            self.assertTrue(all(states[i + r] == states[j + r] for r in range(len(states) - j)))
            self.assertFalse(any(states[a] == states[b] for b in range(j) for a in range(b)))
            longer = Mute(book, list(world), paper.number, paper.house, paper.start)
            self.same([judge(longer), judge.rounds_of(longer), judge.ring(longer)], [True, ring[1] + 30, ring])
        self.assertGreater(many, 5)

    def test_two_runs(self):
        """[222], [223]: begin, others, order and view, and which run is wrong."""
        machine = Answers(2, 5, 0)
        judge = Judge(machine, CUT)
        events = [("begin", 0, PUT), ("tick", 0), ("begin", 1, GET), ("tick", 1)]
        good = TwoRuns(CUT, events, 0, 0, 1, 0)
        self.same([judge.fault(good), judge.wrong(good)], [None, ("with",)])
        for value in NO_NUMBERS + (1, 2, 3, 4, -4):
            self.same(judge.fault(TwoRuns(CUT, events, 0, 0, 1, value)), "begin")
            self.same(judge.fault(TwoRuns(CUT, events, 0, value, 1, 0)), "begin")
        for value in NO_NUMBERS + (0, 2, -1):
            self.same(judge.fault(TwoRuns(CUT, events, 0, 0, value, 0)), "others")
        for deed in (("put", 0, True), ("put", 0, 2), ("put", False, 1), GET, ("put", 0, 1.0), TWO, ("put", 0, 1, 1), ("put", 1, 1)):
            self.same(judge.fault(TwoRuns(CUT, [("begin", 0, deed)] + events[1:], 0, 0, 1, 0)), "begin")
        for deed in (("get", False), ("get", 1), PUT, TWO, ("get", 0.0), ("get",)):
            self.same(judge.fault(TwoRuns(CUT, events[:2] + [("begin", 1, deed), ("tick", 1)], 0, 0, 1, 0)), "others")
        more = events + [("begin", 0, GET), ("tick", 1)]
        self.same(judge.fault(TwoRuns(CUT, more, 0, 0, 1, 0)), "others")
        self.same(judge.fault(TwoRuns(CUT, events[:2], 0, 0, 1, 0)), "others")
        late = [events[2], events[0], events[1], events[3]]
        self.same(judge.fault(TwoRuns(CUT, late, 0, 0, 1, 1)), "order")
        both = [events[0], events[2], events[1], events[3]]
        self.same(judge.fault(TwoRuns(CUT, both, 0, 0, 1, 0)), "order")
        self.same(judge.fault(TwoRuns(CUT, [events[0]] + events[2:], 0, 0, 1, 0)), "order")
        self.same(judge.fault(TwoRuns(CUT, events[:3], 0, 0, 1, 0)), "order")
        self.same(judge.fault(TwoRuns(CUT, events + [("tick", 0)], 0, 0, 1, 0)), "order")
        self.same(judge.fault(TwoRuns(CUT, [("tick", 1)] + events, 0, 0, 1, 1)), None)

    def test_same_house_and_view(self):
        """A reader that is the writer, and one that heard of the put, tell the runs apart."""
        judge = Judge(Answers(2, 5, 0), OPEN)
        own = [("begin", 0, PUT), ("tick", 0), ("begin", 0, GET), ("tick", 0)]
        self.same(judge.fault(TwoRuns(OPEN, own, 0, 0, 0, 0)), "view")
        heard = [("begin", 0, PUT), ("tick", 0), ("hand", 0, 1, 1), ("begin", 1, GET), ("tick", 1)]
        self.same(judge.fault(TwoRuns(OPEN, heard, 0, 0, 1, 0)), None)
        self.same(Judge(Told.read(2, QUICK), OPEN).fault(TwoRuns(OPEN, heard, 0, 0, 1, 0)), "view")

    def test_view_by_kinds(self):
        """A sheet that says True in one run and 1 in the other one is another sheet."""
        class Kinds(Answers):
            def tick(self, state, me):
                if state in ("put", True):
                    return True, 1 if state == "put" else None
                return (1, 0) if state == "get" else (1, None)

        events = [("begin", 0, PUT), ("tick", 0), ("hand", 0, 1, 1), ("begin", 1, GET), ("tick", 1)]
        self.same(Judge(Kinds(2, 1, 0), OPEN).fault(TwoRuns(OPEN, events, 0, 0, 1, 0)), "view")

    def test_wrong(self):
        """[223]: one run is wrong, or both are; True and 1.0 are no 1."""
        events = [("begin", 0, PUT), ("tick", 0), ("begin", 1, GET), ("tick", 1)]
        rows = [(0, ("with",)), (1, ("without",)), (2, ("with", "without")), (True, ("with", "without")),
                (False, ("with", "without")), (1.0, ("with", "without")), ("1", ("with", "without"))]
        for answer, wanted in rows:
            self.same(Judge(Answers(2, 5, answer), CUT).wrong(TwoRuns(CUT, events, 0, 0, 1, 0)), wanted)
        events = [("begin", 0, ONE), ("tick", 0), ("begin", 1, TWO), ("tick", 1)]
        for answer, wanted in ((1, ("without",)), (2, ("with",)), (5, ("with", "without"))):
            self.same(Judge(Answers(2, 5, answer), CUT).wrong(TwoRuns(CUT, events, 0, 0, 1, 0)), wanted)

        class Firsts(Answers):
            def begin(self, state, me, deed):
                return deed[1]

            def tick(self, state, me):
                return None, 5 if state == 1 else 1 if state == 2 else None

        # The writer is answered 5 and the reader 1: both runs are wrong.
        self.same(Judge(Firsts(2, 5, 0), CUT).wrong(TwoRuns(CUT, events, 0, 0, 1, 0)), ("with", "without"))

    def test_wrong_takes_two_runs_alone(self):
        judge = Judge(Told.read(2, DEAF), CUT)
        mute = Mute(CUT, [("begin", 0, GET)], 0, 0, 0)
        self.raises(BadPaper(), judge.wrong, mute)
        self.raises(BadPaper(), judge.wrong, TwoRuns(CUT, mute.schedule, 0, 0, 1, 0))
        seven = Judge(Told.read(2, SEVEN), CUT)
        odd = Odd(CUT, [("begin", 0, ONE), ("tick", 0)], 0, 0)
        self.same(seven.fault(odd), None)
        for call in (seven.wrong, seven.ring, seven.rounds_of):
            self.raises(BadPaper(), call, odd)
        self.raises(BadPaper(), judge.ring, Mute(CUT, mute.schedule, 0, 1, 0))

    def test_odd(self):
        """[222]: begin, order and own."""
        judge = Judge(Told.read(2, SEVEN), OPEN)
        begin = ("begin", 1, ONE)
        self.same(judge.fault(Odd(OPEN, [begin, ("tick", 0), ("tick", 1)], 0, 1)), None)
        self.same(judge.fault(Odd(OPEN, [begin, ("tick", 1)], 1, 1)), "pattern")
        for events in ((), [("tick", 0), begin, ("tick", 1)], [("begin", 1, TWO), ("tick", 1)], [("begin", 1, GET), ("tick", 1)],
                       [begin, ("begin", 0, ONE), ("tick", 1)], [begin, ("tick", 1), begin, ("tick", 1)], [("tick", 1)]):
            self.same(judge.fault(Odd(OPEN, events, 0, 1)), "begin")
        self.same(judge.fault(Odd(OPEN, [begin, ("tick", 1)], 0, 0)), "begin")
        self.same(judge.fault(Odd(OPEN, [begin], 0, 1)), "order")
        self.same(judge.fault(Odd(OPEN, [begin, ("tick", 1), ("tick", 0)], 0, 1)), "order")
        for answer, wanted in ((1, "own"), (2, None), (True, None), (0, None), (False, None), ((), None)):
            paper = Odd(OPEN, [begin, ("tick", 1)], 0, 1)
            self.same(Judge(Answers(2, 5, answer), OPEN).fault(paper), wanted)

    def test_wrong_is_never_empty(self):
        """[223]: at least one of the two runs of a TwoRuns that is taken is wrong."""
        many = 0
        for pick, machine, book, paper in some_papers(53, 250):
            if paper.KIND == "two runs":
                many += 1
                words = Judge(machine, book).wrong(paper)
                self.assertIn(words, [("with",), ("without",), ("with", "without")])
        self.assertGreater(many, 8)

    def test_memory_takes_no_two_runs(self):
        """[233]: the judge of a Memory whose lots cross takes no TwoRuns, whatever is handed to it."""
        pick = random.Random(7)
        for _, machine, book, paper in some_papers(54, 150):
            if paper.KIND != "two runs":
                continue
            judge = Judge(Memory(next(iter_crossing(pick, book.houses))), book)
            self.assertNotEqual(judge.fault(paper), None)

    def test_asked_twice(self):
        """A judge asked twice answers the same, and changes no paper."""
        for pick, machine, book, paper in some_papers(55, 40):
            judge, before = Judge(machine, book), repr(told_of(paper))
            self.same([judge(paper), judge(paper), judge.fault(paper)], [True, True, None])
            self.assertEqual(repr(told_of(paper)), before)

    def test_claims(self):
        paper = break_claim(Told.read(2, QUICK), Claim(CUT, [(0, 0), (0, 1)]))
        self.same(Judge(Told.read(2, QUICK), CUT)(paper), True)
        self.same(round_events(World(Told.read(2, QUICK)), net_of(CUT, 0), (0,)), (("tick", 0),))


def iter_crossing(pick, houses):
    from breaking import crossing_for
    while True:
        yield crossing_for(pick, houses)


if __name__ == "__main__":
    unittest.main()
