"""Points [14], [220], [227] to [234], [288] and [289]: papers against machines for claims and books."""

import random
import unittest

from silentlinks.agreeing import break_agreement
from silentlinks.amounts import all_links
from silentlinks.blockers import quick_lots
from silentlinks.books import Book
from silentlinks.breaker import break_book, break_claim, break_sides, hasty, least_rounds, measured
from silentlinks.choices import full_claim
from silentlinks.claims import Claim
from silentlinks.compiled import memory_text
from silentlinks.errors import BadNumber, BadPlaces, NotAdmitted, NotAPlace
from silentlinks.exactly import rounds_told
from silentlinks.getfirst import get_first
from silentlinks.greatest import greatest_claims
from silentlinks.judges import Judge
from silentlinks.kept import hushed
from silentlinks.lone import chain_houses, lone_answered, lone_round, lone_schedule
from silentlinks.lots import Lots
from silentlinks.machines import Gossip
from silentlinks.memory import Memory
from silentlinks.nets import Net
from silentlinks.papers import Mute
from silentlinks.patterns import Pattern
from silentlinks.putfirst import put_first
from silentlinks.served import back_time, echo_time, push_time, put_rounds, served, tour_rounds
from silentlinks.sided import Sided
from silentlinks.told import Told
from silentlinks.views import view
from silentlinks.worlds import run
from breaking import DEAF, QUICK, SEVEN, SLOW, agreeing_machine, broken_books, crossing_for, net_at, places_by, some_machine, told_of, wild_schedule
from support import NO_NUMBERS, LinksCase, Reach, friends_by, harder_pattern, keepable_by, reaches_of, sees_by, some_lots, some_pattern

PUT, GET = ("put", 0, 1), ("get", 0)
CUT = Book(2, [Pattern((), [(0, 1), (1, 0)])])


def some_claim(pick, book, most=4):
    places = places_by(book)
    return Claim(book, pick.sample(places, pick.randint(0, min(most, len(places)))))


def least_by(claim, place):
    """[14], word by word."""
    nets = reaches_of(claim.book)
    for t in range(2 * claim.book.houses):
        echo = nets[place[0]].echo(place[1], t)
        if all(set(echo) & set(nets[j].past(h)) for j, h in claim.places):
            return 1 + t
    return None


def lone_by(machine, book, place, deed, patience):
    return lone_round(machine, net_at(book, place), place[1], deed, patience)


class Breaker(LinksCase):
    def same_paper(self, got, wanted):
        self.assertEqual(got is None, wanted is None)
        if wanted is not None:
            self.same(told_of(got), told_of(wanted))

    def taken(self, machine, book, paper):
        self.assertIs(Judge(machine, book)(paper), True)

    def test_least_rounds(self):
        """[14]: 1 + the least t at which the echo meets the past of each place; None for foes that it never meets."""
        seen = set()
        for pick, book in broken_books(91, 300):
            claim = some_claim(pick, book)
            for place in claim.places:
                wanted = least_by(claim, place)
                seen.add(wanted)
                self.same(least_rounds(claim, pick.choice((place, list(place)))), wanted)
            if claim.keepable:
                self.assertTrue(all(least_rounds(claim, place) is not None for place in claim))
        self.assertLessEqual({None, 1, 3, 4}, seen)

    def test_least_rounds_of_no_place(self):
        """NotAPlace(0) for a value of any kind that is no place of the claim."""
        book = Book(2, [Pattern(), Pattern([1])])
        claim = Claim(book, [(0, 0), (1, 0)])
        for value in (None, (0, 1), (1, 1), (2, 0), (0, 0, 0), "00", (0,), {}, ((0, 0),)) + NO_NUMBERS:
            self.raises(NotAPlace(0), least_rounds, claim, value)
        for value in NO_NUMBERS:
            self.raises(NotAPlace(0), least_rounds, claim, (0, value))
            self.raises(NotAPlace(0), least_rounds, claim, [value, 0])
        self.raises(NotAPlace(0), least_rounds, Claim(book, []), (0, 0))
        self.same(least_rounds(claim, (1, 0)), 1)

    def test_break_claim(self):
        """[230]: None exactly if the claim is keepable, whatever the machine; else put_first of the two foes."""
        seen = set()
        for pick, book in broken_books(92, 400):
            claim, machine, patience = some_claim(pick, book), some_machine(pick, book.houses), pick.randint(1, 10)
            paper = break_claim(machine, claim, patience=patience)
            nets = reaches_of(book)
            foes = [(p, o) for p in claim.places for o in claim.places if p < o and not friends_by(nets, p, o)]
            wanted = None
            if foes:
                first, other = foes[0]
                seer, seen_one = (first, other) if not sees_by(nets, first, other) else (other, first)
                wanted = put_first(machine, book, seen_one, seer, patience)
                self.taken(machine, book, paper)
                seen.add(paper.KIND)
                if paper.KIND == "mute":
                    self.same(Judge(machine, book).rounds_of(paper), patience)
            else:
                seen.add(None)
            self.same_paper(paper, wanted)
        self.assertEqual(seen, {None, "mute", "two runs"})

    def test_break_agreement(self):
        """[230] with break_agreement: None exactly if the claim is keepable; each paper is taken."""
        seen = set()
        for pick, book in broken_books(93, 400):
            claim, machine, patience = some_claim(pick, book), agreeing_machine(pick, book.houses), pick.randint(1, 10)
            paper = break_agreement(machine, claim, patience=patience)
            self.same(paper is None, claim.keepable)
            if paper is not None:
                self.taken(machine, book, paper)
            seen.add(paper and paper.KIND)
        self.assertEqual(seen, {None, "mute", "two runs", "odd"})

    def test_empty_and_small_claims(self):
        """A claim without a place, with one place, with two places of one pattern."""
        book = Book(2, [Pattern((), [(0, 1), (1, 0)]), Pattern([0])])
        quick = Told.read(2, QUICK)
        for places in ([], [(0, 1)], [(0, 1), (1, 1)]):
            claim = Claim(book, places)
            for call in (break_claim, break_agreement, hasty):
                self.same(call(quick, claim), None)
        claim = Claim(book, [(0, 0), (0, 1)])
        self.same(break_claim(quick, claim).KIND, "two runs")
        self.same([least_rounds(claim, (0, 0)), least_rounds(claim, (0, 1))], [None, None])
        self.same(hasty(quick, claim), None)

    def test_errors(self):
        """[220]: a wrong patience, also where None would be returned; NotAdmitted behind it."""
        claim, friends = Claim(CUT, [(0, 0), (0, 1)]), Claim(CUT, [(0, 0)])
        for value in (0, 201, -1) + NO_NUMBERS:
            for call in (break_claim, break_agreement, hasty):
                self.raises(BadNumber("patience"), call, Gossip(2), claim, patience=value)
                self.raises(BadNumber("patience"), call, Gossip(2), friends, patience=value)
            for call in (measured, break_book):
                self.raises(BadNumber("patience"), call, Gossip(2), CUT, patience=value)
                self.raises(BadNumber("patience"), call, Gossip(2), Book(2, [Pattern()]), patience=value)
            self.raises(BadNumber("patience"), break_sides, Gossip(2), CUT, [(0, 0)], [(0, 0)], patience=value)
        # The first of the two foes does not see the other one, which is thus the first to begin a deed.
        for call in (break_claim, break_agreement):
            self.raises(NotAdmitted(1), call, Gossip(2), claim)
            self.same(call(Gossip(2), friends), None)
        self.raises(NotAdmitted(0), hasty, Gossip(2), claim)
        self.raises(NotAdmitted(0), measured, Gossip(2), CUT)
        self.same(break_book(Gossip(2), CUT), None)
        self.raises(NotAdmitted(1), break_book, Gossip(2), Book.alone(2))
        owned = Memory(Lots(2, [[0], [1]], [[0], [1]]), owners=(0,))
        self.raises(NotAdmitted(1), break_claim, owned, claim)
        self.raises(NotAdmitted(1), measured, owned, CUT)

    def test_hasty(self):
        """[232]: the first lone deed that is answered ahead of the least round, of put_first or get_first; else None."""
        seen = set()
        for pick, book in broken_books(94, 800):
            claim, machine, patience = some_claim(pick, book), some_machine(pick, book.houses), pick.randint(1, 10)
            wanted, made, passed = None, None, False
            nets = reaches_of(book)
            for place in claim.places:
                least = least_by(claim, place)
                for deed in (PUT, GET):
                    told = lone_by(machine, book, place, deed, patience)
                    if made is None and told is not None and least is None:
                        passed = True
                    if made is None and told is not None and least is not None and told < least:
                        echo = nets[place[0]].echo(place[1], told - 1)
                        other = [(j, h) for j, h in claim.places if not set(nets[j].past(h)) & set(echo)][0]
                        made = deed[0]
                        call = put_first if deed is PUT else get_first
                        wanted = call(machine, book, place, other, patience)
                        self.assertIsNot(wanted, None)
            paper = hasty(machine, claim, patience=patience)
            self.same_paper(paper, wanted)
            seen.add((made, passed))
            if paper is not None:
                self.taken(machine, book, paper)
        self.assertLessEqual({(None, False), (None, True), ("put", False), ("put", True), ("get", False)}, seen)

    def test_hasty_without_least_round(self):
        """A place whose least round is None gives no paper, whichever round answers it; a later place may give one."""
        quick = Told.read(2, QUICK)
        for patience in (1, 24, 200):
            self.same(hasty(quick, Claim(CUT, [(0, 0), (0, 1)]), patience=patience), None)
        book = Book(3, [Pattern((), [(0, 1), (0, 2), (1, 0), (2, 0)]), Pattern()])
        claim = Claim(book, [(0, 0), (0, 1), (1, 1)])
        self.same([least_rounds(claim, place) for place in claim], [None, None, 3])
        quick = Told.read(3, QUICK)
        paper = hasty(quick, claim)
        self.same_paper(paper, put_first(quick, book, (1, 1), (0, 0), 24))
        self.same((paper.number, paper.writer, paper.reader, paper.start), (0, 1, 0, 0))
        self.taken(quick, book, paper)
        # Of this machine a get alone is quick, so that the later place reads.
        late = Told.read(3, "machine late\ncells c\nbegin\n  c = 0\ntick\n  c = c + 1\n  if c >= 3\n    answer 1\n  if deed = 1\n    answer 0")
        paper = hasty(late, claim)
        self.same_paper(paper, get_first(late, book, (1, 1), (0, 0), 24))
        self.same((paper.number, paper.writer, paper.reader), (0, 0, 1))
        self.taken(late, book, paper)

    def test_hasty_asks_without_least_round(self):
        """Both deeds of a place are asked, also where its least round is None: what is refused there goes through."""
        class Some(Told):
            taken = ()

            def admits(self, me, deed):
                return (me, deed[0]) in self.taken

        machine, claim = Some.read(2, QUICK), Claim(CUT, [(0, 0), (0, 1)])
        deeds = ((0, "put"), (0, "get"), (1, "put"), (1, "get"))
        for many in range(4):
            machine.taken = deeds[:many]
            self.raises(NotAdmitted(deeds[many][0]), hasty, machine, claim)
            # The deed refused alone is asked, too.
            machine.taken = deeds[:many] + deeds[many + 1:]
            self.raises(NotAdmitted(deeds[many][0]), hasty, machine, claim)
        machine.taken = deeds
        self.same(hasty(machine, claim), None)

    def test_hasty_asks_no_more(self):
        """Behind the first quick deed no other one is begun."""
        class First(Told):
            def admits(self, me, deed):
                return me == 0 and deed == PUT or me == 1 and deed == GET

        claim = Claim(Book(2, [Pattern(), CUT[0]]), [(0, 0), (1, 1)])
        self.same([least_rounds(claim, place) for place in claim], [3, 1])
        self.same(hasty(First.read(2, QUICK), claim).KIND, "two runs")

    def test_hasty_ahead_of_the_least_round(self):
        """An answer in the least round itself is not quick, one in the round ahead of it is; so with put and get."""
        claim = Claim(Book(2, [Pattern(), CUT[0]]), [(0, 0), (1, 1)])
        for put, get, kind in ((3, 3, None), (2, 3, "put"), (3, 2, "get"), (4, 4, None)):
            text = f"machine late\ncells c\nbegin\n  c = 0\ntick\n  c = c + 1\n  if deed = 2 and c >= {put}\n    answer 1"
            machine = Told.read(2, text + f"\n  if deed = 1 and c >= {get}\n    answer 1")
            call = {None: lambda *args: None, "put": put_first, "get": get_first}[kind]
            paper = hasty(machine, claim)
            self.same(paper is None, kind is None)
            self.same_paper(paper, call(machine, claim.book, (0, 0), (1, 1), 24))
            self.same_paper(hasty(machine, claim, patience=1), None)

    def test_measured(self):
        """All places whose lone put and whose lone get are answered."""
        for pick, book in broken_books(95, 200):
            machine, patience = some_machine(pick, book.houses), pick.randint(1, 12)
            wanted = [p for p in places_by(book) if all(lone_by(machine, book, p, d, patience) for d in (PUT, GET))]
            told = measured(machine, book, patience=patience)
            self.assertIs(told.book, book)
            self.same(told.places, tuple(wanted))
        none = Book(2, [Pattern([0, 1])])
        self.same(measured(Told.read(2, QUICK), none).places, ())

    def test_patience_of_24(self):
        """The patience is 24 if none is told."""
        for ticks, wanted in ((24, 2), (25, 0)):
            text = f"machine late\ncells c\nbegin\n  c = 0\ntick\n  c = c + 1\n  if c >= {ticks}\n    answer 1"
            machine = Told.read(2, text)
            self.assertEqual(len(measured(machine, CUT)), wanted)
        # No least round is above 24, so the patience of hasty shows in the rounds that its paper waits.
        half = Told.read(2, "machine half\ncells c\ntick\n  if deed = 2\n    answer 1")
        book = Book(2, [Pattern(), CUT[0]])
        self.same(Judge(half, book).rounds_of(hasty(half, Claim(book, [(0, 0), (1, 1)]))), 24)
        deaf = Told.read(2, DEAF)
        claim = Claim(CUT, [(0, 0), (0, 1)])
        for call in (break_claim, break_agreement):
            self.same(Judge(deaf, CUT).rounds_of(call(deaf, claim)), 24)
        self.same(Judge(deaf, CUT).rounds_of(break_sides(deaf, CUT, [(0, 0)], [(0, 1)])), 24)
        self.same(len(break_book(deaf, Book.alone(2))[1][0].schedule), 25)

    def test_break_book(self):
        """None with a full claim; the Mutes of a pattern without a measured place; else the paper of break_claim."""
        seen = {}
        for pick, book in broken_books(96, 600):
            machine, patience = some_machine(pick, book.houses), pick.randint(1, 10)
            if pick.random() < 0.5:
                machine = Told.read(book.houses, QUICK)
            told = break_book(machine, book, patience=patience)
            self.same(told is None, full_claim(book) is not None)
            if told is None:
                seen["none"] = seen.get("none", 0) + 1
                continue
            number, papers = told
            claim = measured(machine, book, patience=patience)
            empty = [i for i in range(len(book)) if not claim.houses_at(i)]
            for paper in papers:
                self.taken(machine, book, paper)
            self.assertIs(type(papers), tuple)
            if not empty:
                chosen = [(i, claim.houses_at(i)[0]) for i in range(len(book))]
                self.same(number, -1)
                self.assertEqual(len(papers), 1)
                self.same_paper(papers[0], break_claim(machine, Claim(book, chosen), patience=patience))
            else:
                self.same(number, empty[0])
                houses = book.patterns[number].standing(book.houses)
                self.assertEqual(len(papers), len(houses))
                for house, paper in zip(houses, papers):
                    net = net_at(book, (number, house))
                    deed = GET if lone_answered(machine, net, house, PUT, patience) else PUT
                    schedule = lone_schedule(machine, net, house, deed, patience)
                    self.same_paper(paper, Mute(book, schedule, number, house, 0))
            seen[number == -1] = seen.get(number == -1, 0) + 1
        self.assertEqual(set(seen), {"none", True, False})
        self.assertGreater(min(seen.values()), 2)

    def test_break_book_small(self):
        """A pattern in which all houses fall has no measured place and no Mute."""
        book = Book(2, [Pattern(), Pattern([0, 1])])
        self.same(break_book(Told.read(2, QUICK), book), (1, ()))
        number, papers = break_book(Told.read(2, SEVEN), Book.alone(2))
        self.same((number, papers[0].KIND), (-1, "two runs"))

    def test_break_sides(self):
        """[230]: None exactly if each writer's place is a friend of each reader's place."""
        seen = set()
        for pick, book in broken_books(97, 400):
            machine, patience = some_machine(pick, book.houses), pick.randint(1, 10)
            writers, readers = some_claim(pick, book, 3), some_claim(pick, book, 3)
            nets = reaches_of(book)
            pairs = [(w, r) for w in writers for r in readers if not friends_by(nets, w, r)]
            wanted = None
            if pairs:
                w, r = pairs[0]
                blind = not sees_by(nets, r, w)
                wanted = put_first(machine, book, w, r, patience) if blind else get_first(machine, book, r, w, patience)
                self.taken(machine, book, wanted)
                seen.add(blind)
            shuffled = [list(place) for place in pick.sample(writers.places, len(writers))]
            self.same_paper(break_sides(machine, book, shuffled, readers.places, patience=patience), wanted)
            seen.add(None if not pairs else pairs[0] and "pair")
        self.assertEqual(seen, {None, True, False, "pair"})

    def test_sides_are_checked(self):
        """Writers, then readers, as in Claim; then the patience."""
        quick = Told.read(2, QUICK)
        book = Book(2, [Pattern([1])])
        for call in (lambda rows: break_sides(quick, book, rows, None, patience=None),
                     lambda rows: break_sides(quick, book, [(0, 0)], rows, patience=None)):
            self.raises(BadPlaces(-1), call, None)
            self.raises(BadPlaces(1), call, [(0, 0), (0, 0)])
            self.raises(BadPlaces(1), call, [(0, 1), (2, 0)])
            self.raises(NotAPlace(1), call, ((0, 0), [0, 1]))
        self.same(break_sides(quick, book, [], []), None)

    def test_echo_in_every_schedule(self):
        """[228]: whenever a lone deed of a Memory is answered, the past of each served place has a chain house."""
        many = 0
        for pick, book in broken_books(98, 300):
            machine = Memory(crossing_for(pick, book.houses))
            deed = pick.choice((PUT, GET))
            schedule = wild_schedule(pick, machine, pick.randrange(book.houses), deed, 150, pick.choice((None, Pattern())))
            if schedule is None:
                continue
            start = [time for time, event in enumerate(schedule) if event[0] == "begin"][0]
            chain = set(chain_houses(schedule, start, len(schedule) - 1))
            for i, h in served(machine.lots, book).places:
                many += 1
                self.assertTrue(chain & set(Reach(book.houses, book.patterns[i]).past(h)))
        self.assertGreater(many, 50)

    def test_memory_is_as_quick(self):
        """[232]: a Memory over quick_lots answers a lone get in the least round, and what the push takes more."""
        many = 0
        for pick, book in broken_books(99, 150):
            for claim in greatest_claims(book)[:3] + [some_claim(pick, book)]:
                if not claim.keepable or not len(claim):
                    continue
                lots = quick_lots(claim)
                machine = Memory(lots)
                for place in claim:
                    net = net_at(book, place)
                    wait = max(0, push_time(lots, net, place[1]) - back_time(lots, net, place[1]))
                    wanted = least_rounds(claim, place) + wait
                    self.same(lone_by(machine, book, place, GET, 60), wanted)
                    many += 1
        self.assertGreater(many, 100)

    def test_memory_is_not_hasty(self):
        """[232]: lots that cross and serve the claim: hasty and break_claim return None, measured has all places."""
        many = 0
        for pick, book in broken_books(100, 200):
            lots = crossing_for(pick, book.houses)
            places = served(lots, book).places
            claim = Claim(book, pick.sample(places, pick.randint(0, len(places))))
            if not len(claim):
                continue
            patience = max(put_rounds(lots, net_at(book, place), place[1]) for place in claim)
            machine = Memory(lots)
            self.same([hasty(machine, claim, patience=patience), break_claim(machine, claim, patience=patience)], [None, None])
            self.assertTrue(set(claim.places) <= set(measured(machine, book, patience=patience).places))
            many += 1
        self.assertGreater(many, 80)

    def test_two_sets(self):
        """[234]: a Sided of the parts and pasts of writers and readers that are friends has no paper against it."""
        many = 0
        for pick, book in broken_books(101, 500, 4):
            writers, readers = some_claim(pick, book, 3), some_claim(pick, book, 3)
            nets = reaches_of(book)
            if not len(writers) or not len(readers) or not all(friends_by(nets, w, r) for w in writers for r in readers):
                continue
            puts, gets = [Lots(book.houses, [nets[i].part(h) for i, h in rows], [nets[i].past(h) for i, h in rows])
                          for rows in (writers, readers)]
            machine = Sided(puts, gets)
            limits = [tour_rounds(puts, net_at(book, p), p[1]) for p in writers]
            limits += [tour_rounds(gets, net_at(book, p), p[1]) for p in readers]
            for w in writers:
                for r in readers:
                    self.same(put_first(machine, book, w, r, max(limits)), None)
                    self.same(get_first(machine, book, r, w, max(limits)), None)
            many += 1
        self.assertGreater(many, 60)

    def test_program_of_the_memory(self):
        """[289]: break_claim returns with the program of a Memory what it returns with the Memory."""
        pick = random.Random(6)
        seen = set()
        for _, book in broken_books(102, 300, 3):
            claim = some_claim(pick, book)
            lots = [lots for lots in some_lots(pick.random(), 30, book.houses) if lots.houses == book.houses]
            if not lots:
                continue
            one = break_claim(Memory(lots[0]), claim, patience=8)
            other = break_claim(Told.read(book.houses, memory_text(lots[0])), claim, patience=8)
            seen.add(one and one.KIND)
            self.same_paper(other, one)
        self.assertEqual(seen, {None, "mute", "two runs"})

    def test_harsher_patterns(self):
        """[288]: with a harsher pattern the least round of a place that stays is at least as great."""
        grown = 0
        for pick, book in broken_books(103, 300):
            number = pick.randrange(len(book))
            other = book.replaced(number, harder_pattern(pick, book[number], book.houses))
            places = [place for place in places_by(other) if pick.random() < 0.5]
            one, new = Claim(book, places), Claim(other, places)
            for place in places:
                low, high = least_rounds(one, place), least_rounds(new, place)
                self.assertTrue(high is None or low is not None and low <= high)
                grown += low != high
        self.assertGreater(grown, 20)

    def test_hushed(self):
        """[288]: the times and rounds of a house are the same in the net of hushed."""
        pick = random.Random(4)
        for _ in range(200):
            houses = pick.randint(2, 4)
            net = Net(houses, some_pattern(pick, houses))
            if not net.alive:
                continue
            house, lots = pick.choice(net.alive), crossing_for(pick, houses)
            same = Net(houses, hushed(net, house))
            for call in (echo_time, push_time, back_time):
                self.same(call(lots, same, house), call(lots, net, house))
            for deed in (PUT, GET):
                self.same(rounds_told(Memory(lots), same, house, deed), rounds_told(Memory(lots), net, house, deed))

    def test_rounds_may_be_fewer(self):
        """[288]: rounds_told may be smaller in the net of a harsher pattern."""
        lasting = [(0, 2), (2, 1), (1, 0), (0, 3), (3, 4), (4, 5), (5, 0), (6, 3)]
        pattern = Pattern((), [link for link in all_links(7) if link not in lasting])
        machine = Memory(Lots(7, [[1], [3]], [[1, 3, 6]]))
        self.same(rounds_told(machine, Net(7, pattern), 0, GET), 7)
        self.same(rounds_told(machine, Net(7, pattern | Pattern((), [(2, 1)])), 0, GET), 6)

    def test_views_of_papers(self):
        """[15]: the reader's view is the same in both runs, and it is answered last in both."""
        for pick, book in broken_books(104, 100):
            machine, claim = Told.read(book.houses, pick.choice((QUICK, SLOW))), some_claim(pick, book)
            paper = break_claim(machine, claim)
            if paper is None or paper.KIND != "two runs":
                continue
            world, less = run(machine, paper.schedule), run(machine, paper.without())
            self.same(view(world, paper.reader), view(less, paper.reader))
            self.assertEqual(world.history()[-1][4], less.history()[-1][4])
            self.assertEqual(keepable_by(reaches_of(book), claim.places), False)


if __name__ == "__main__":
    unittest.main()
