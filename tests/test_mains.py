"""Points [285] to [287] and [290]: the main questions."""

import random
import unittest

import test_greatest
from silentlinks.agreeing import break_agreement
from silentlinks.blockers import quick_lots
from silentlinks.books import Book
from silentlinks.breaker import break_claim, measured
from silentlinks.choices import full_claim
from silentlinks.claims import Claim
from silentlinks.critical import critical
from silentlinks.errors import BadNumber, NotAdmitted, TooMany
from silentlinks.exactly import rounds_told
from silentlinks.friends import blind
from silentlinks.greatest import greatest_claims
from silentlinks.judges import Judge
from silentlinks.judging import is_order
from silentlinks.lone import lone_round
from silentlinks.machines import Gossip
from silentlinks.mains import best_claim, decide, kept_or_broken, portrait
from silentlinks.memory import Memory
from silentlinks.numbering import order_by_numbers
from silentlinks.patterns import Pattern
from silentlinks.putfirst import put_first
from silentlinks.refusals import leaves, refusal
from silentlinks.served import served
from silentlinks.texts import book_from
from silentlinks.told import Told
from silentlinks.worlds import World
from breaking import DEAF, QUICK, SEVEN, agreeing_machine, broken_books, crossing_for, net_at, places_by, some_machine, told_of
from runs import some_event
from support import NO_NUMBERS, LinksCase, Reach, keepable_by, reaches_of, some_books, split_book

PUT, GET = ("put", 0, 1), ("get", 0)
NO_PLACE = Book(2, [Pattern([0, 1])])


def some_claim(pick, book, most=4):
    places = places_by(book)
    return Claim(book, pick.sample(places, pick.randint(0, min(most, len(places)))))


def some_values(pick, houses, many):
    """Events, many of which a world refuses, and values of any kind."""
    world, rows = World(Gossip(houses)), []
    for _ in range(many):
        rows.append(some_event(pick, world, [("put", 0, pick.randint(1, 9)), GET, ("look",)]))
        if rows[-1][0] == "tick":
            world.do(rows[-1]) if world.can(rows[-1]) else None
        if pick.random() < 0.1:
            rows.append(pick.choice((None, 5, (), ("tick",), ("fall", 7), ["tick", 0], "tick 0", ("begin", 0, ("get", 9)))))
    return rows


class Decide(LinksCase):
    def test_decide(self):
        """The lots of a keepable claim, None without places, or the foes as blind tells them."""
        seen = {}
        for pick, book in broken_books(121, 300):
            claim = some_claim(pick, book)
            told = decide(claim)
            if not len(claim):
                self.same(told, ("kept", None))
            elif claim.keepable:
                self.same([type(told), len(told), told[0]], [tuple, 2, "kept"])
                self.assertTrue(told[1] == quick_lots(claim))
                self.assertTrue(told[1].crossing)
                self.assertTrue(set(claim.places) <= set(served(told[1], book).places))
            else:
                first, other = claim.foes()
                self.same(told, ("foes",) + blind(book, first, other))
                self.assertFalse(set(told[3]) & set(told[4]))
            seen[told[0]] = seen.get(told[0], 0) + 1
            self.assertEqual(told[0] == "kept", keepable_by(reaches_of(book), claim.places))
        self.assertGreater(min(seen.values()), 20)
        self.same(decide(Claim(NO_PLACE, [])), ("kept", None))

    def test_kept_or_broken(self):
        """[285]"""
        seen, orders = {}, 0
        for pick, book in broken_books(122, 250, 3):
            claim, machine, patience = some_claim(pick, book), some_machine(pick, book.houses), pick.randint(1, 12)
            schedule = some_values(pick, book.houses, 150)
            told = kept_or_broken(claim, machine, pick.choice((schedule, tuple(schedule))), patience=patience)
            seen[told[0]] = seen.get(told[0], 0) + 1
            if told[0] == "broken":
                self.assertEqual(len(told), 2)
                self.same(told_of(told[1]), told_of(break_claim(machine, claim, patience=patience)))
                judge = Judge(machine, book)
                self.assertTrue(judge(told[1]))
                if told[1].KIND == "mute":
                    self.same(judge.rounds_of(told[1]), patience)
                else:
                    self.assertTrue(judge.wrong(told[1]))
            elif not len(claim):
                self.same(told, ("kept", None, None))
            else:
                self.assertEqual(len(told), 3)
                self.assertTrue(told[1] == quick_lots(claim))
                world = World(Memory(told[1]))
                for event in schedule:
                    if world.can(event):
                        world.do(event)
                self.same(told[2], order_by_numbers(world))
                plain = [record for record in world.history() if record[1][0] != "look"]
                if len(plain) == len(world.history()):
                    self.assertTrue(is_order(world.history(), told[2]))
                orders += len(told[2])
        self.assertGreater(min(seen.values()), 20)
        self.assertGreater(orders, 50)

    def test_machine_is_used_if_broken(self):
        """machine and patience are used only if the claim is not keepable; then the errors are those of break_claim."""
        book = book_from("houses 2\npattern silent 0>1 1>0")
        kept, broken = Claim(book, [(0, 0)]), Claim(book, [(0, 0), (0, 1)])
        self.same(kept_or_broken(kept, None, [None], patience=None)[2], ())
        self.same(kept_or_broken(Claim(book, []), None, (), patience=None), ("kept", None, None))
        for value in (0, 201) + NO_NUMBERS:
            self.raises(BadNumber("patience"), kept_or_broken, broken, Gossip(2), (), patience=value)
        self.raises(NotAdmitted(1), kept_or_broken, broken, Gossip(2), ())
        self.same(len(kept_or_broken(broken, Told.read(2, DEAF), ())[1].schedule), 25)

    def test_the_same_claims(self):
        """[286]"""
        seen = {}
        for pick, book in broken_books(123, 150, 3):
            claim = some_claim(pick, book, 3)
            if not len(claim):
                continue
            machine, other = some_machine(pick, book.houses), agreeing_machine(pick, book.houses)
            papers = (break_claim(machine, claim, patience=6), break_agreement(other, claim, patience=6))
            if claim.keepable:
                lots = quick_lots(claim)
                told = measured(Memory(lots), book, patience=60).places
                self.assertTrue(set(claim.places) <= set(told))
                self.same(papers, (None, None))
                for i, b in claim:
                    for deed in (PUT, GET):
                        rounds = rounds_told(Memory(lots), net_at(book, (i, b)), b, deed)
                        self.same(lone_round(Memory(lots), net_at(book, (i, b)), b, deed, 60), rounds)
            else:
                self.assertTrue(Judge(machine, book)(papers[0]) and Judge(other, book)(papers[1]))
                for _ in range(5):
                    lots = crossing_for(pick, book.houses)
                    self.assertFalse(set(claim.places) <= set(served(lots, book).places))
                memory = Judge(Memory(crossing_for(pick, book.houses)), book)
                if papers[0].KIND == "two runs":
                    self.assertFalse(memory(papers[0]))
            seen[claim.keepable] = seen.get(claim.keepable, 0) + 1
        self.assertGreater(min(seen.values()), 10)

    def test_leaves(self):
        """[287]: of each pair in leaves the first two members of blind give a paper that is taken."""
        many, pick = 0, random.Random(4)
        for book in list(some_books(124, 700, 3, 4)) + [Book.alone(2), Book.alone(3)]:
            tree = refusal(book)
            if tree is None or not places_by(book):
                continue
            machine = some_machine(pick, book.houses)
            rows = leaves(book, tree)
            for one, other in rows:
                seer, seen = blind(book, one, other)[:2]
                paper = put_first(machine, book, seen, seer, 8)
                self.assertTrue(Judge(machine, book)(paper))
                many += 1
            nets = reaches_of(book)
            if all(net.alive for net in nets):
                for _ in range(5):
                    parts = [net.part(pick.choice(net.alive)) for net in nets]
                    self.assertTrue(any(one[1] in parts[one[0]] and other[1] in parts[other[0]] for one, other in rows))
        self.assertGreater(many, 50)


class Best(LinksCase):
    def test_best_claim(self):
        """[290]: keepable, and no keepable claim has more places; the first one in the order of greatest_claims."""
        for book in some_books(125, 80, 4, 4):
            claims = greatest_claims(book)
            best = best_claim(book)
            most = max(len(claim) for claim in claims)
            self.same(best.places, [claim.places for claim in claims if len(claim) == most][0])
            self.assertTrue(best.keepable)
        for book in some_books(126, 40, 3, 2):
            nets, places = reaches_of(book), places_by(book)
            sizes = [0]
            for mask in range(2 ** len(places)):
                chosen = [place for k, place in enumerate(places) if mask >> k & 1]
                if len(chosen) > max(sizes) and keepable_by(nets, chosen):
                    sizes.append(len(chosen))
            self.same(len(best_claim(book)), max(sizes))

    def test_portrait(self):
        seen = set()
        for book in some_books(127, 150, 4, 5):
            full = full_claim(book) is not None
            best = " ".join(f"{i}:{b}" for i, b in best_claim(book))
            wanted = ["full claim: yes" if full else "full claim: no", f"greatest claims: {len(greatest_claims(book))}",
                      "best claim: " + (best or "none")]
            if not full:
                wanted.append("critical patterns: " + " ".join(str(i) for i in critical(book)))
            self.same(portrait(book), wanted)
            seen.add(full)
        self.assertEqual(seen, {True, False})
        self.same(portrait(NO_PLACE), ["full claim: no", "greatest claims: 1", "best claim: none", "critical patterns: 0"])

    def test_too_many(self):
        """600 greatest claims, and 601."""
        just, more = split_book(test_greatest.Limit.JUST), split_book(test_greatest.Limit.MORE)
        self.same(portrait(just)[1], "greatest claims: 600")
        self.same(len(best_claim(just)), max(len(claim) for claim in greatest_claims(just)))
        for call in (best_claim, portrait):
            self.raises(TooMany("claims"), call, more)

    def test_places_of_the_best_claim(self):
        book = book_from("houses 2\npattern silent 0>1\npattern fall 0")
        nets = [Reach(2, pattern) for pattern in book.patterns]
        self.assertTrue(keepable_by(nets, best_claim(book).places))
        self.same(kept_or_broken(best_claim(book), Told.read(2, QUICK), [("tick", 0)])[2], ())
        self.same(kept_or_broken(best_claim(book), Told.read(2, SEVEN), [])[0], "kept")


if __name__ == "__main__":
    unittest.main()
