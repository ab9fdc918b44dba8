"""Points [220], [222], [223], [227] and [230] for agreement: break_agreement."""

import unittest

from silentlinks.agreed import Agreed
from silentlinks.agreeing import break_agreement
from silentlinks.books import Book
from silentlinks.claims import Claim
from silentlinks.errors import BadNumber, NotAdmitted
from silentlinks.judges import Judge
from silentlinks.lone import lone_answered, lone_schedule
from silentlinks.lots import Lots
from silentlinks.machines import Gossip
from silentlinks.papers import Mute, Odd, TwoRuns
from silentlinks.patterns import Pattern
from silentlinks.stretches import round_events
from silentlinks.texts import book_from
from silentlinks.told import Told
from silentlinks.views import view
from silentlinks.worlds import run
from breaking import DEAF, QUICK, SEVEN, agreeing_machine, broken_books, net_at, places_by, told_of
from runs import past_by
from support import NO_NUMBERS, LinksCase, Reach, friends_by, reaches_of, sees_by

ONE, TWO = ("propose", 1), ("propose", 2)
CUT = book_from("houses 2\npattern silent 0>1 1>0")
BOTH = Claim(CUT, [(0, 0), (0, 1)])


def paper_by(machine, claim, patience):
    """The interface and [225], word by word, with ("propose", 1) and ("propose", 2)."""
    book = claim.book
    nets = reaches_of(book)
    foes = [(p, o) for p in claim.places for o in claim.places if p < o and not friends_by(nets, p, o)]
    if not foes:
        return None
    seer, seen = foes[0] if not sees_by(nets, *foes[0]) else foes[0][::-1]
    first = lone_answered(machine, net_at(book, seen), seen[1], ONE, patience)
    if first is None:
        return Mute(book, lone_schedule(machine, net_at(book, seen), seen[1], ONE, patience), seen[0], seen[1], 0)
    answer = run(machine, first).history()[0][4]
    if isinstance(answer, bool) or answer != 1:
        return Odd(book, first, seen[0], seen[1])
    world = run(machine, [first[time] for time in past_by(first, len(first) - 1)])
    pattern = book.patterns[seer[0]]
    for event in [("fall", h) for h in pattern.fallen] + [("hush", a, b) for a, b in pattern.silent]:
        world.do(event)
    begun = world.clock
    world.do(("begin", seer[1], TWO))
    for _ in range(patience):
        for event in round_events(world, net_at(book, seer), Reach(book.houses, pattern).past(seer[1])):
            world.do(event)
            if event == ("tick", seer[1]) and world.deed(seer[1]) is None:
                return TwoRuns(book, tuple(world), seer[0], seen[1], seer[1], 0)
    return Mute(book, tuple(world), seer[0], seer[1], begun)


class Agreeing(LinksCase):
    def test_papers(self):
        """[227], [230]: the paper as the words make it; taken; a Mute has patience rounds, a TwoRuns a wrong run."""
        seen = {}
        for pick, book in broken_books(111, 500):
            places = places_by(book)
            claim = Claim(book, pick.sample(places, pick.randint(0, min(4, len(places)))))
            machine, patience = agreeing_machine(pick, book.houses), pick.randint(1, 12)
            paper, wanted = break_agreement(machine, claim, patience=patience), paper_by(machine, claim, patience)
            self.assertEqual(paper is None, wanted is None)
            key = None
            if paper is not None:
                judge = Judge(machine, book)
                self.same(told_of(paper), told_of(wanted))
                self.assertIs(judge(paper), True)
                key = paper.KIND if paper.KIND != "mute" else ("mute", paper.start > 0)
                if paper.KIND == "mute":
                    self.same(judge.rounds_of(paper), patience)
                if paper.KIND == "two runs":
                    self.assertTrue(judge.wrong(paper))
                    world, less = run(machine, paper.schedule), run(machine, paper.without())
                    self.same(view(world, paper.reader), view(less, paper.reader))
            seen[key] = seen.get(key, 0) + 1
        self.assertEqual(set(seen), {None, ("mute", False), ("mute", True), "odd", "two runs"})
        self.assertGreater(min(seen.values()), 1)

    def test_small_claims(self):
        quick = Told.read(2, QUICK)
        self.same([break_agreement(quick, Claim(CUT, [])), break_agreement(quick, Claim(CUT, [(0, 1)]))], [None, None])
        odd = break_agreement(Told.read(2, SEVEN), BOTH)
        self.same((odd.KIND, odd.number, odd.house, odd.schedule), ("odd", 0, 1, (("begin", 1, ONE), ("tick", 1))))
        mute = break_agreement(Told.read(2, DEAF), BOTH, patience=200)
        self.same((mute.KIND, mute.start, len(mute.schedule)), ("mute", 0, 201))

    def test_answers_that_equal_one(self):
        """True is no 1, so its house is answered something else."""
        class Yes(Told):
            def tick(self, state, me):
                later, answer = super().tick(state, me)
                return later, None if answer is None else True

        text = "machine one\ntick\n  answer given"
        self.same(break_agreement(Told.read(2, text), BOTH).KIND, "two runs")
        self.same(break_agreement(Yes.read(2, text), BOTH).KIND, "odd")

    def test_errors(self):
        """[220]: a wrong patience comes first, also for a keepable claim; a second deed only if the first is answered 1."""
        for value in (0, 201, -1) + NO_NUMBERS:
            self.raises(BadNumber("patience"), break_agreement, Gossip(2), BOTH, patience=value)
            self.raises(BadNumber("patience"), break_agreement, Gossip(2), Claim(CUT, []), patience=value)
        self.raises(NotAdmitted(1), break_agreement, Gossip(2), BOTH)
        self.same(break_agreement(Gossip(2), Claim(CUT, [(0, 1)])), None)

        class Firsts(Told):
            def admits(self, me, deed):
                return deed == ONE

        text = "machine one\ntick\n  answer given"
        self.raises(NotAdmitted(0), break_agreement, Firsts.read(2, text), BOTH)
        self.same(break_agreement(Firsts.read(2, SEVEN), BOTH).KIND, "odd")
        self.same(break_agreement(Firsts.read(2, DEAF), BOTH).KIND, "mute")

    def test_agreed(self):
        """[230]: an Agreed is beaten, too: over lots that cross it waits, over others it may answer in both runs."""
        book = Book(2, [Pattern([0]), Pattern([1])])
        claim = Claim(book, [(0, 1), (1, 0)])
        waits = break_agreement(Agreed(Lots.majority(2)), claim, patience=100)
        self.same(waits.KIND, "mute")
        answers = break_agreement(Agreed(Lots(2, [[0], [1]], [[0], [1]])), claim, patience=100)
        self.same(answers.KIND, "two runs")
        for paper, machine in ((waits, Agreed(Lots.majority(2))), (answers, Agreed(Lots(2, [[0], [1]], [[0], [1]])))):
            self.assertTrue(Judge(machine, book)(paper))


if __name__ == "__main__":
    unittest.main()
