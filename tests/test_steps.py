"""Programs at work: points [145] to [147], [149] and [150], and silentlinks/steps.py and told.py."""

import random
import unittest

from silentlinks.errors import BadHouse, BadHouses, BadProgram, BadText, NotAName
from silentlinks.machines import Machine
from silentlinks.reading import program_from
from silentlinks.steps import do_block, step_bound
from silentlinks.told import Told
from silentlinks.worlds import World
from programs import TOP, Runner, some_text
from runs import some_event, telling
from support import NO_NUMBERS, LinksCase

DEEDS = [("get", 0), ("put", 0, 5), ("put", 0, -TOP), ("put", 0, TOP), ("propose", 3), ("tour", -4)]
CODES = {"get": 1, "put": 2, "propose": 3, "tour": 4}


class Plain(Machine):
    """A Told by [147], with the blocks carried out by Runner."""

    def __init__(self, houses, text):
        self.houses, self.runner = houses, Runner(houses, text)

    def fresh(self, me):
        return ((0,) * self.runner.size, 0, 0, None)

    def begin(self, state, me, deed):
        v = 0 if deed[0] == "get" else deed[-1]
        return self.runner.do("begin", (state[0], CODES[deed[0]], v, state[3]), me)[0]

    def hear(self, state, me, origin, sheet):
        return self.runner.do("hear", state, me, origin, sheet)[0]

    def tick(self, state, me):
        state = self.runner.do("tick", state, me)[0]
        return (state, None) if state[3] is None else ((state[0], 0, 0, None), state[3])

    def admits(self, me, deed):
        return deed in DEEDS


def played(pick, text, houses, many):
    """Two worlds with the same events, of the Told and of the plain machine."""
    world, plain = World(Told.read(houses, text)), World(Plain(houses, text))
    for _ in range(many):
        event = some_event(pick, plain, DEEDS)
        if plain.can(event):
            plain.do(event)
            world.do(event)
    return world, plain


def numbers_of(pick, p, houses):
    many = len(p.cells) + houses * len(p.rows) + houses * houses * len(p.grids)
    return tuple(pick.choice((0, 1, 2, 3, -1, TOP, -TOP, pick.randint(-50, 50))) for _ in range(many))


class Runs(LinksCase):
    def test_schedules(self):
        """[145] to [147]: a Told does what its lines say."""
        pick = random.Random(147)
        answers = 0
        for _ in range(120):
            text = some_text(pick)
            world, plain = played(pick, text, pick.choice((3, 3, 4)), 30)
            self.same(telling(world), telling(plain))
            answers += sum(record[4] is not None for record in world.history())
        self.assertGreater(answers, 60)

    def test_blocks(self):
        """[145], [146], [149]: state and steps behind a block, from states of any kind."""
        pick = random.Random(146)
        for _ in range(250):
            text = some_text(pick, 5)
            p, houses = program_from(text), pick.choice((3, 4))
            runner = Runner(houses, text)
            for block in ("begin", "hear", "tick"):
                rows = [(numbers_of(pick, p, houses), pick.randint(0, 4), pick.randint(-9, 9), pick.choice((None, 7, 0))) for _ in range(2)]
                me, origin = pick.sample(range(houses), 2)
                got = do_block(houses, p, block, rows[0], me, origin, rows[1])
                wanted = runner.do(block, rows[0], me, *((origin, rows[1]) if block == "hear" else ()))
                self.same(got, wanted)
                self.assertLessEqual(got[1], step_bound(houses, p, block))

    def test_ends(self):
        """[145]: numbers at and beyond the two ends."""
        head = "machine m\ncells a b c d e f\ntick\n"
        rows = [
            (f"  a = {TOP}\n  b = {TOP + 1}\n  c = {'9' * 30}", (TOP, TOP, TOP, 0, 0, 0)),
            (f"  a = 0 - {TOP}\n  b = 0 - {TOP + 1}\n  c = a - 1", (-TOP, -TOP, -TOP, 0, 0, 0)),
            (f"  a = {TOP} + 1 - 1\n  b = {TOP} - 1 + 1\n  c = 1 + {TOP} - 5", (TOP - 1, TOP, TOP - 5, 0, 0, 0)),
            (f"  a = 0 - {TOP} - {TOP} + {TOP}\n  b = {TOP} + {TOP} - {TOP}\n  c = {'9' * 30} - {TOP}", (0, 0, 0, 0, 0, 0)),
            ("  a = 2 + 3 max 4 - 1 min 3\n  b = 1 max 2 + 3\n  c = 1 + 2 min 2 max 7", (3, 5, 7, 0, 0, 0)),
        ]
        for text, wanted in rows:
            p = program_from(head + text)
            state = ((0,) * 6, 0, 0, None)
            self.same(do_block(1, p, "tick", state, 0, -1, None)[0], (wanted, 0, 0, None))

    def test_no_house(self):
        """[145]: with an index that is no house a term is 0 and an assignment does nothing."""
        p = program_from("machine m\ncells a b\nrows k\ngrids h\ntick\n  k[2] = 9\n  k[a] = 8\n  h[0][7] = 5\n  h[from][0] = 4\n"
                         "  b = k[1] + h[1][from] + k[2] + h[1][2]\n  h[1][0] = 3\n  k[from] = 6")
        state = ((-1, 50, 1, 2, 10, 20, 30, 40), 0, 0, None)
        self.same(do_block(2, p, "tick", state, 1, 0, state), (((-1, 2, 1, 2, 10, 20, 3, 40), 0, 0, None), 7))

    def test_words(self):
        """[145]: me, many, from, deed and given; their is 0 out of hear, with indexes of the own numbers."""
        text = "  a = me\n  b = many\n  c = from\n  d = deed\n  e = given\n  f = their a\n  g = their k[a]\n"
        p = program_from("machine m\ncells a b c d e f g\nrows k\n" + "".join(word + "\n" + text for word in ("begin", "hear", "tick")))
        state = ((0,) * 10, 2, -7, None)
        sheet = ((9, 9, 9, 9, 9, 9, 9, 30, 31, 32), 4, 4, 4)
        self.same(do_block(3, p, "hear", state, 1, 2, sheet)[0][0][:7], (1, 3, 2, 2, -7, 9, 31))
        for block in ("begin", "tick"):
            self.same(do_block(3, p, block, state, 1, 2, sheet)[0][0][:7], (1, 3, -1, 2, -7, 0, 0))

    def test_first(self):
        """[146]: the first lot that fits as a whole, in the order written; equal members; all tests ahead of the block."""
        p = program_from("machine m\ncells s\nrows k\nlots w 2 0; 1 2; 1 2; 0\ntick\n  first w x needs k[x] = 0\n    s = s + s + x + 1\n"
                         "    k[1] = 5\n    k[2] = 5\n  else\n    s = 77")
        self.same(do_block(3, p, "tick", ((0, 0, 0, 0), 0, 0, None), 0, -1, None), (((7, 0, 5, 5), 0, 0, None), 9))
        self.same(do_block(3, p, "tick", ((0, 1, 0, 0), 0, 0, None), 0, -1, None), (((7, 1, 5, 5), 0, 0, None), 11))
        self.same(do_block(3, p, "tick", ((0, 0, 0, 1), 0, 0, None), 0, -1, None), (((1, 0, 5, 5), 0, 0, None), 10))
        self.same(do_block(3, p, "tick", ((0, 1, 1, 1), 0, 0, None), 0, -1, None), (((77, 1, 1, 1), 0, 0, None), 6))

    def test_loop_names_of_a_part(self):
        """[146]: loop names outside a part are not changed by it."""
        p = program_from("machine m\ncells s\npart p\n  each j\n    s = s + 100\ntick\n  each j\n    do p\n    s = s + j")
        self.same(do_block(2, p, "tick", ((0,), 0, 0, None), 0, -1, None), (((401,), 0, 0, None), 11))

    def test_bound(self):
        """step_bound"""
        head = "machine m\ncells a\nlots w 0 1 2; 1; 1\npart p\n  a = 1\n  answer a\n"
        for text, wanted in (
            ("  a = 1", 1), ("  answer a", 1), ("  do p", 3), ("  if a = 0\n    do p\n  else\n    a = 1", 4),
            ("  if a = 0\n    a = 1\n  else\n    do p\n    a = 1", 5), ("  each j\n    a = 1\n    do p", 21),
            ("  first w x needs x = 0\n    a = 1", 9), ("  first w x needs x = 0\n    a = 1\n  else\n    do p\n    do p", 12),
            ("  each j\n    first w x needs x = 0\n      do p\n  a = 1", 77),
        ):
            p = program_from(head + "tick\n" + text)
            self.same([step_bound(5, p, "tick"), step_bound(5, p, "begin"), step_bound(5, p, "hear")], [wanted, 0, 0])

    def test_deep(self):
        """[149]: blocks that are nested deep through parts."""
        lines = ["machine m", "cells a", "lots w 0", "part paa", "  a = a + 1"]
        for k in range(32):
            names = ["p" + chr(97 + i // 26) + chr(97 + i % 26) for i in (k, k + 1)]
            heads = ["if a >= 0", "each j", "first w x needs x = 0", "if a >= 0", "each i", "first w y needs y = 0", "if a < 9"]
            lines += ["part " + names[1]] + ["  " * (at + 1) + head for at, head in enumerate(heads)] + ["  " * 8 + "do " + names[0]]
        p = program_from("\n".join(lines + ["tick", "  do pbg"]))
        self.same(step_bound(1, p, "tick"), 2 + 32 * 10)
        self.same(do_block(1, p, "tick", ((0,), 0, 0, None), 0, -1, None), (((1,), 0, 0, None), 322))
        twice = ["machine m", "cells a", "part paa", "  a = a + 1"]
        for k in range(90):
            names = ["p" + chr(97 + i // 26) + chr(97 + i % 26) for i in (k, k + 1)]
            twice += ["part " + names[1], "  do " + names[0], "  do " + names[0]]
        self.assertGreater(step_bound(2, program_from("\n".join(twice + ["tick", "  do pdm"])), "tick"), 2 ** 90)

    def test_wrong_block(self):
        p = program_from("machine m\ntick\n  answer 1")
        for word in ("part", "", "Tick", "m", None, 2, True, ("tick",), ["tick"]):
            self.raises(NotAName(word), step_bound, 2, p, word)
            self.raises(NotAName(word), do_block, 2, p, word, ((), 0, 0, None), 0, -1, None)


class Tolds(LinksCase):
    TEXT = "machine m\ncells a\nrows k\ngrids h\nlots w 0 1; 2\ntick\n  k[me] = k[me] + 1\n  h[me][0] = 7\n  if a = 0\n    answer given"

    def test_own_methods(self):
        for name in ("fresh", "begin", "hear", "tick", "admits", "held_at", "read"):
            self.assertIn(name, vars(Told))
        self.assertTrue(issubclass(Told, Machine))

    def test_wrong(self):
        p = program_from(self.TEXT)
        for houses in (0, 8) + NO_NUMBERS:
            self.raises(BadHouses(), Told, houses, None)
            self.raises(BadHouses(), Told.read, houses, "wrong")
        for value in (None, self.TEXT, p.blocks, Told):
            self.raises(BadProgram(), Told, 3, value)
        self.raises(BadHouse(2), Told, 2, p)
        self.raises(BadHouse(1), Told, 1, p)
        self.raises(BadHouse(5), Told.read, 5, "machine m\nlots v 4 3\nlots w 0; 4 5 6")
        self.raises(BadText(1), Told.read, 2, "wrong")
        self.raises(BadHouse(2), Told.read, 2, self.TEXT)
        told = Told.read(3, self.TEXT)
        self.assertTrue(told.program == p)
        self.assertEqual(told.houses, 3)

    def test_states(self):
        """told.py: cells, then rows, house by house, then grids, row by row."""
        told = Told.read(3, self.TEXT)
        self.same(told.fresh(1), ((0,) * 13, 0, 0, None))
        self.same(Told.read(7, "machine m").fresh(0), ((), 0, 0, None))
        state = (tuple(range(13)), 0, 0, None)
        self.same(told.held_at(state, "a"), 0)
        self.same([told.held_at(state, "k", x) for x in range(3)], [1, 2, 3])
        self.same([told.held_at(state, "h", x, y) for x in range(3) for y in range(3)], list(range(4, 13)))
        for name in ("b", "w", "m", "", "me"):
            self.raises(NotAName(name), told.held_at, state, name)

    def test_answers(self):
        """[147]"""
        w = World(Told.read(2, "machine m\ncells a b\nbegin\n  b = deed\n  if given = 3\n    answer 9\nhear\n  answer 4\n  answer 5\n"
                               "tick\n  a = deed\n  answer 1 - 1\n  answer 6"))
        self.same([w.do(("tick", 0)), w.state(0)], [None, ((0, 0), 0, 0, None)])
        # An answer that stands is given by the next tick; the sheet of the tick has no deed.
        self.same([w.do(("begin", 0, ("put", 0, 3))), w.state(0)], [None, ((0, 2), 2, 3, 9)])
        self.same([w.do(("tick", 0)), w.state(0), w.sheet(0, 2)], [9, ((2, 2), 0, 0, None), ((2, 2), 0, 0, None)])
        # Nothing is answered without a deed.
        self.same([w.do(("tick", 1)), w.do(("hand", 0, 1, 1)), w.state(1), w.do(("tick", 1))], [None, None, ((0, 0), 0, 0, None), None])
        self.same([w.do(("begin", 1, ("get", 0))), w.do(("hand", 0, 1, 1)), w.state(1)], [None, None, ((0, 1), 1, 0, 4)])
        self.same([w.do(("tick", 1)), w.do(("begin", 1, ("tour", 8))), w.do(("tick", 1)), w.do(("tick", 1))], [4, None, 0, None])
        self.same([r[4] for r in w.history()], [9, 4, 0])

    def test_blocks_not_told(self):
        """[147]: a block that is not told does nothing."""
        w = World(Told.read(2, "machine m\ncells a"))
        for event in (("begin", 0, ("put", 0, 5)), ("tick", 0), ("tick", 1), ("hand", 1, 1, 0), ("tick", 0)):
            self.assertIsNone(w.do(event))
        self.same([w.state(0), w.state(1)], [((0,), 2, 5, None), ((0,), 0, 0, None)])

    def test_admits(self):
        told = Told.read(2, "machine m")
        for v in (0, 5, -5, TOP, -TOP):
            for deed in (("put", 0, v), ("propose", v), ("tour", v)):
                self.assertIs(told.admits(1, deed), True)
        self.assertIs(told.admits(0, ("get", 0)), True)
        wrong = [(), ("get",), ("get", 1), ("get", -1), ("get", 0, 0), ("put", 0), ("put", 1, 1), ("look",), ("look", 1), ("move", 1),
                 ("add_if", 0, 1, 2), ("propose",), ("tour", 1, 2), (None, 0), (("get",), 0), (["get"], 0), None, ["get", 0]]
        wrong += [(word, *ahead, v) for word, ahead in (("put", (0,)), ("propose", ()), ("tour", ()))
                  for v in NO_NUMBERS + (TOP + 1, -TOP - 1)]
        wrong += [("get", v) for v in NO_NUMBERS] + [("put", v, 1) for v in NO_NUMBERS]
        for deed in wrong:
            self.assertIs(told.admits(0, deed), False)

    def test_without_their(self):
        """[150]: without their the states do not depend on what sheets say; without hear, on begins and ticks alone."""
        pick = random.Random(150)
        for _ in range(60):
            text = some_text(pick).replace("their ", "")
            p = program_from(text)
            told = Told(4, p)
            for me in range(2):
                state, other = told.fresh(me), told.fresh(me)
                for _ in range(15):
                    kind = pick.randrange(3)
                    if kind == 0:
                        (state, one), (other, two) = told.tick(state, me), told.tick(other, me)
                        self.same(one, two)
                    elif kind == 1 and state[1] == 0:
                        deed = pick.choice(DEEDS)
                        state, other = told.begin(state, me, deed), told.begin(other, me, deed)
                    else:
                        origin = pick.choice([h for h in range(4) if h != me])
                        sheets = [(numbers_of(pick, p, 4), pick.randint(0, 4), 1, None) for _ in range(2)]
                        state, other = told.hear(state, me, origin, sheets[0]), told.hear(other, me, origin, sheets[1])
                        if p.blocks[1] == ():
                            self.same(told.hear(state, me, origin, sheets[1]), state)
                    self.same(state, other)


if __name__ == "__main__":
    unittest.main()
