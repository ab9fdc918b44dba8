"""Programs and their texts: points [140] to [144] and [148], and silentlinks/words.py, trees.py, reading.py, printing.py."""

import random
import string
import unittest

from silentlinks.errors import BadText
from silentlinks.printing import program_text
from silentlinks.reading import program_from
from silentlinks.trees import Program
from silentlinks.words import RESERVED, clip, is_name
from programs import POOL, some_text, wrong_line
from support import LinksCase

N30 = "9" * 30
HEAD = "machine m\ncells a b\nrows k\ngrids h\nlots w 0 1; 2\n"


class Words(LinksCase):
    def test_reserved(self):
        told = ("machine cells rows grids lots part begin hear tick if else each first needs do answer and max min their"
                " me many from deed given")
        self.same(RESERVED, tuple(told.split()))

    def test_names(self):
        """[142]"""
        for text in ("a", "z", "abc", "twelveletter", "maxi", "le", "elses", string.ascii_lowercase[:12]):
            self.assertIs(is_name(text), True)
        for text in RESERVED + ("", "thirteenlette", "a" * 13, "A", "aB", "a1", "1", "a_b", "a b", " a", "a\n", "\xe9", "\u0430", "a-b", "a]"):
            self.assertIs(is_name(text), False)

    def test_clip(self):
        """[145]"""
        top = 10 ** 12
        for number in (0, 5, -5, top, -top, top - 1, 1 - top):
            self.same(clip(number), number)
        for number in (top + 1, 10 ** 30):
            self.same([clip(number), clip(-number)], [top, -top])


class Trees(LinksCase):
    def test_equal(self):
        told = ("m", ("a",), ("k",), ("h",), (("w", ((0,),)),), (("p", ()),), ((), (), ()))
        for at in range(7):
            other = list(told)
            other[at] = "x" if at == 0 else ("x",)
            self.assertFalse(Program(*told) == Program(*other))
            self.assertTrue(Program(*told) != Program(*other))
        self.assertTrue(Program(*told) == Program(*told))
        for value in (None, told, "m"):
            self.assertFalse(Program(*told) == value)

    def test_attributes(self):
        p = Program("m", ("a",), ("k",), ("h",), (), (), ((), (), ()))
        self.same([p.name, p.cells, p.rows, p.grids, p.tables, p.parts, p.blocks],
                  ["m", ("a",), ("k",), ("h",), (), (), ((), (), ())])


class Reads(LinksCase):
    def test_tree(self):
        """[140] to [143]: each statement and each term stands in the tree as trees.py tells."""
        text = HEAD.replace("0 1; 2", "1 0;2 ;1 0") + "\n".join([
            "part add", "  a = a + 1 - b max 3 min many", "begin", "  k[me] = their h[a][3] + given", "  do add", "hear",
            "  if from = 0 and their a >= deed - 2", "    each j", "      h[j][from] = j", "  else", "    answer 0", "tick",
            "  first w x needs k[x] != x", "    a = x", "  else", "    first w x needs x < me", "      answer x"])
        p = program_from(text)
        a, b, j, x, me = [("cell", "a", ()), ("cell", "b", ()), ("loop", "j", ()), ("loop", "x", ()), ("word", "me", ())]
        self.same([p.name, p.cells, p.rows, p.grids], ["m", ("a", "b"), ("k",), ("h",)])
        self.same(p.tables, (("w", ((1, 0), (2,), (1, 0))),))
        add = ("set", a, (a, ("+", ("number", 1, ())), ("-", b), ("max", ("number", 3, ())), ("min", ("word", "many", ()))))
        self.same(p.parts, (("add", (add,)),))
        first = ("set", ("row", "k", (me,)), (("their grid", "h", (a, ("number", 3, ()))), ("+", ("word", "given", ()))))
        self.same(p.blocks[0], (first, ("do", "add")))
        cond = (((("word", "from", ()),), "=", (("number", 0, ()),)),
                ((("their cell", "a", ()),), ">=", (("word", "deed", ()), ("-", ("number", 2, ())))))
        each = ("each", "j", (("set", ("grid", "h", (j, ("word", "from", ()))), (j,)),))
        self.same(p.blocks[1], (("if", cond, (each,), (("answer", (("number", 0, ()),)),)),))
        inner = ("first", "w", "x", (((x,), "<", (me,)),), (("answer", (x,)),), ())
        outer = ("first", "w", "x", (((("row", "k", (x,)),), "!=", (x,)),), (("set", a, (x,)),), (inner,))
        self.same(p.blocks[2], (outer,))

    def test_smallest(self):
        """[140]: declarations, parts and blocks in any number, also none."""
        self.same(program_text(program_from("machine m")), "machine m")
        self.same(program_from("#\n\nmachine   m  \n ").blocks, ((), (), ()))
        p = program_from("machine m\nlots w 6\nrows k\ncells a\nlots v 0;0\ncells b\ntick\n  a = 1\npart p\n  a = 2\nhear\n  do p")
        self.same([p.cells, p.rows, p.tables, [name for name, block in p.parts]],
                  [("a", "b"), ("k",), (("w", ((6,),)), ("v", ((0,), (0,)))), ["p"]])
        self.same(program_text(p), "machine m\ncells a b\nrows k\nlots w 6\nlots v 0; 0\npart p\n  a = 2\nhear\n  do p\ntick\n  a = 1")

    def test_numbers(self):
        """[143]: a number is told as it is written, of 30 digits too."""
        p = program_from(f"machine m\ncells a\nrows k\ntick\n  a = {N30}\n  k[{N30}] = 0")
        self.same(p.blocks[2][0][2], (("number", int(N30), ()),))
        self.same(p.blocks[2][1][1], ("row", "k", (("number", int(N30), ()),)))

    def test_taken(self):
        """[140], [142], [143]: what is just not wrong."""
        rows = [
            "tick\n  each j\n    a = j\n  each j\n    a = j",
            "tick\n  first w x needs x = 0\n    a = x\n  else\n    each x\n      a = x",
            "tick\n  each j\n    a = j\nhear\n  each j\n    a = j",
            "part p\n  a = 1\npart q\n  do p\ntick\n  do q\n  do p",
            "tick\n  each a0\n    a = 1".replace("a0", "aa"),
            "tick\n  if a = 0\n    a = 1\n  else\n    if a = 0\n      a = 2\n    else\n      a = 3",
            "tick\n" + "".join("  " * (k + 1) + "if a = 0\n" for k in range(7)) + "  " * 8 + "a = 1\n  b = 1",
            "tick\n  a = 1   \n\n    # deep\n      \n  b = 2 ",
            "tick\n  k[a] = h[from][me]\n  h[b][0] = their k[b] max their a",
            "begin\n  a = their a",
            "tick\n  a   =   a  max    b",
        ]
        for text in rows:
            self.assertIsNone(wrong_line(HEAD + text))
            program_from(HEAD + text)
        for text in ("machine m\nlots w 0  ;  1 ;2", "machine m\nlots  w 0;1 ", "machine twelveletter\ncells x y\ngrids z"):
            program_from(text)

    def test_wrong_heads(self):
        """[140], [142], [144]"""
        rows = [
            (1, "machin m"), (1, "machine"), (1, "machine m n"), (1, "machine Me"), (1, "machine me"), (1, "  machine m"),
            (1, " machine m"), (1, "cells a"), (1, "tick"), (1, "\tmachine m"), (1, "machine m\r"), (1, "machine thirteenlette"),
            (2, "machine m\nmachine n"), (2, "machine m\ncells"), (2, "machine m\ncells a a"), (2, "machine m\ncells m"),
            (2, "machine m\ncells a B"), (2, "machine m\ncells tick"), (3, "machine m\ncells a\nrows a"), (2, "machine m\n  cells a"),
            (2, "machine m\n cells a"), (2, "machine m\nlots w"), (2, "machine m\nlots"), (2, "machine m\nlots w 0;"),
            (2, "machine m\nlots w ;0"), (2, "machine m\nlots w 0;;1"), (2, "machine m\nlots w 0 0"), (2, "machine m\nlots w 7"),
            (2, "machine m\nlots w 0, 1"), (2, "machine m\nlots w 00"), (2, "machine m\nlots w -1"), (2, "machine m\nlots w x"),
            (2, "machine m\nlots w;0"), (2, "machine m\nlots m 0"), (2, "machine m\nlots 0 1"), (2, "machine m\nlots w 1;1 1"),
            (2, "machine m\npart"), (2, "machine m\npart p q"), (2, "machine m\npart m"), (2, "machine m\npart tick"),
            (2, "machine m\ntick tick"), (2, "machine m\nbegin 0"), (2, "machine m\nelse"), (2, "machine m\na = 1"),
            (4, "machine m\ntick\n  answer 1\ncells a"), (4, "machine m\ntick\n  answer 1\ntick\n  answer 2"),
            (5, "machine m\ncells a\npart p\n  a = 1\npart p\n  a = 2"), (4, "machine m\npart p\n  answer 1\nlots w 0"),
            (5, "machine m\ntick\n  each j\n    answer j\npart j\n  answer 1"), (4, "machine m\npart p\n  answer 1\nmachine n"),
        ]
        for line, text in rows:
            self.assertEqual(wrong_line(text), line, text)
            self.raises(BadText(line), program_from, text)

    def test_wrong_statements(self):
        """[141] to [143]"""
        rows = [
            "a", "a =", "= 1", "a = = 1", "a == 1", "a = 1 2", "a = + 1", "a = 1 +", "a = -1", "a = 1 - - 1", "a = a+1", "a=1",
            "a = 01", "a = " + "9" * 31, "a = x", "a = k", "a = h[0]", "a = k[0][0]", "a = a[0]", "a = k[]", "a = k [0]", "a = k[ 0]",
            "a = k[k]", "a = k[k[0]]", "a = k[many]", "a = k[deed]", "a = k[x]", "a = k[-1]", "a = k[0", "a = k0]", "a = k[0]]",
            "a = k[[0]", "a = k[a]x", "a = their", "a = their 1", "a = their me", "a = their their a", "a = my a", "their a = 1",
            "me = 1", "m = 1", "w = 1", "1 = 1", "j = 1", "a = m", "a = w", "a = and", "a = a max", "a = a max max b", "a = a * b",
            "k = 1", "k[0][0] = 1", "h[0] = 1", "h = 1", "k[x] = 1", "answer", "answer x", "answer 1 2", "answer = 1", "do", "do p",
            "do a", "do w 0", "else", "tick", "cells c", "part p", "begin", "machine x", "lots v 0", "each", "each a", "each me",
            "each j j", "each J", "each thirteenlette", "if", "if a", "if a = ", "if = a", "if a = b = 0", "if a = b and", "if and a = b",
            "if a = b and and a = b", "if a = b or a = b", "if a == b", "if a <> b", "if a =< b", "if x = 0", "if a = 0 then",
            "first", "first w", "first w x", "first w x needs", "first a x needs a = 0", "first v x needs a = 0",
            "first w a needs a = 0", "first w w needs a = 0", "first w x a = 0", "first w x need a = 0", "first w x needs y = 0",
            "first w x needs a", "first w first needs a = 0", "else if a = 0", "if a = 0 else",
        ]
        for text in rows:
            whole = HEAD + "\ntick\n  b = 1\n# no\n  " + text + "\n    a = 1\nwrong"
            self.assertEqual(wrong_line(whole), 10, text)
            self.raises(BadText(10), program_from, whole)

    def test_levels(self):
        """[140], [141], [144]: levels 8 and 9, odd numbers of blanks, head lines without a block."""
        deep = "".join("  " * (k + 1) + "if a = 0\n" for k in range(8))
        rows = [
            (7, "tick"), (8, "tick\n   a = 1"), (8, "tick\n a = 1"), (8, "tick\n    a = 1"), (8, "tick\na = 1"),
            (9, "tick\n  a = 1\n    a = 2"), (9, "tick\n  a = 1\n   a = 2"), (9, "tick\n\nhear\n  a = 1"), (7, "tick\n#\n# x\n"),
            (8, "tick\n  if a = 0\n  # no"), (9, "tick\n  if a = 0\n  a = 1"), (9, "tick\n  if a = 0\n      a = 1"),
            (9, "tick\n  if a = 0\nhear\n  a = 1"), (10, "tick\n  if a = 0\n    a = 1\n  else"), (11, "tick\n  if a = 0\n    a = 1\n  else\n  a = 1"),
            (15, "tick\n" + deep), (16, "tick\n" + deep + "  " * 9 + "a = 1"), (16, "tick\n" + deep + "  " * 8 + "a = 1"),
            (15, "tick\n" + deep[:-1] + "\n#\n"), (9, "tick\n  first w x needs x = 0\n  else\n    a = 1"),
        ]
        for line, text in rows:
            self.assertEqual(wrong_line(HEAD + "\n" + text), line, text)
            self.raises(BadText(line), program_from, HEAD + "\n" + text)

    def test_else(self):
        """[141]: only directly behind the block of an if or first, and of its level."""
        rows = [
            (7, "  else\n    a = 1"), (8, "  a = 1\n  else\n    a = 1"), (9, "  each j\n    a = 1\n  else\n    a = 1"),
            (11, "  if a = 0\n    a = 1\n  else\n    a = 1\n  else\n    a = 1"),
            (10, "  if a = 0\n    a = 1\n  a = 2\n  else\n    a = 1"), (9, "  if a = 0\n    a = 1\n    else\n      a = 1"),
            (10, "  if a = 0\n    if b = 0\n      a = 1\n   else\n    a = 1"), (9, "  if a = 0\n    a = 1\nelse\n  a = 1"),
            (9, "  if a = 0\n    a = 1\n  else a\n    a = 1"),
        ]
        for line, text in rows:
            whole = HEAD + "tick\n" + text
            self.assertEqual(wrong_line(whole), line, whole)
            self.raises(BadText(line), program_from, whole)

    def test_names_once(self):
        """[142]: loop names; what is declared behind the place where a name is a loop name."""
        rows = [
            (8, "tick\n  each j\n    each j\n      a = 1"),
            (8, "tick\n  each x\n    first w x needs x = 0\n      a = 1"), (8, "tick\n  first w x needs x = 0\n    each x\n      a = 1"),
            (9, "tick\n  each j\n    a = j\n  b = j"), (9, "tick\n  first w x needs x = 0\n    a = x\n  b = x"),
            (10, "tick\n  first w x needs x = 0\n    a = x\n  else\n    a = x"), (7, "part p\n  each p\n    a = 1"),
            (9, "tick\n  each p\n    a = 1\npart p\n  a = 1"), (7, "part p\n  do p"), (7, "part p\n  do q\npart q\n  a = 1"),
            (7, "tick\n  each m\n    a = 1"), (7, "tick\n  each w\n    a = 1"), (7, "tick\n  each h\n    a = 1"),
        ]
        for line, text in rows:
            self.assertEqual(wrong_line(HEAD + text), line, text)
            self.raises(BadText(line), program_from, HEAD + text)

    def test_limit(self):
        """[144]: at most 300 lines count; the 301st is wrong."""
        text = "machine m\ncells a\n# no\n\ntick" + "\n  a = 1" * 297
        self.assertEqual(len(program_from(text).blocks[2]), 297)
        self.raises(BadText(303), program_from, text + "\n  a = 1")
        self.raises(BadText(305), program_from, text + "\n#\n \n  a = 1\n  a = 1")
        self.raises(BadText(302), program_from, text[:-1] + "\n  a = 1")
        self.assertEqual(len(program_from(text + "\n\n# a\n").blocks[2]), 297)
        head = text.rsplit("\n", 1)[0] + "\n  if a = 0"
        self.raises(BadText(302), program_from, head)
        self.raises(BadText(303), program_from, head + "\n    a = 1")

    def test_no_line(self):
        """[144]: if no line counts, the number of lines."""
        for text, lines in (("", 1), ("  ", 1), ("\n", 2), ("# a\n\n \n#", 4), ("#machine m", 1)):
            self.raises(BadText(lines), program_from, text)

    def test_only_line_feeds_and_blanks_separate(self):
        for sign in ("\r", "\x0b", "\x0c", "\x1c", "\u2028", "\t", "\u00a0"):
            self.raises(BadText(1), program_from, f"machine m{sign}cells a")
            self.raises(BadText(2), program_from, f"machine m\ncells a{sign}b")
            self.raises(BadText(4), program_from, f"machine m\ncells a\ntick\n  a{sign}= 1")
            self.raises(BadText(2), program_from, f"machine m\n{sign}\ncells a")


def changed(pick, text):
    """The text with some lines changed, so that it may be wrong."""
    lines = text.split("\n")
    for _ in range(pick.choice((1, 1, 2))):
        at = pick.randrange(len(lines))
        kind = pick.randrange(9)
        words = lines[at].split(" ")
        other = pick.choice(POOL + list(RESERVED) + ["=", "+", "<", "0", "9", ";", "1", "k[0]", "h[me][j]", "x", "[", "]"])
        if kind == 0:
            del lines[at]
        elif kind == 1:
            lines.insert(at, pick.choice(lines))
        elif kind == 2:
            lines[at] = pick.choice(("  ", " ", "    ")) + lines[at]
        elif kind == 3:
            lines[at] = lines[at][pick.choice((1, 2, 4)):]
        elif kind == 4:
            words[pick.randrange(len(words))] = other
            lines[at] = " ".join(words)
        elif kind == 5:
            lines[at] = lines[at] + " " + other
        elif kind == 6:
            b = pick.randrange(len(lines))
            lines[at], lines[b] = lines[b], lines[at]
        elif kind == 7:
            lines.insert(at, pick.choice(("", "   ", "# else", "else", "  else", "    else")))
        elif lines[at]:
            c = pick.randrange(len(lines[at]))
            lines[at] = lines[at][:c] + pick.choice(" []=;a0#") + lines[at][c + pick.randint(0, 1):]
        lines = lines or [""]
    return "\n".join(lines)


class Fuzz(LinksCase):
    def test_one_form(self):
        """[148]"""
        pick = random.Random(148)
        for _ in range(200):
            text = some_text(pick, 6)
            p = program_from(text)
            self.same(program_text(p), text)
            self.assertTrue(program_from(program_text(p)) == p)
            rows = []
            for line in text.split("\n"):
                rows += pick.sample(["", "    ", "# tick", "   # no"], pick.randint(0, 1))
                ahead = line[:len(line) - len(line.lstrip(" "))]
                wide = "".join(" " * pick.randint(1, 3) if sign == " " else sign for sign in line.lstrip(" "))
                rows.append(ahead + wide.replace("; ", pick.choice((";", " ; ", ";  "))) + " " * pick.randint(0, 2))
            self.assertTrue(program_from("\n".join(rows)) == p)

    def test_first_wrong_line(self):
        """[144]: against a reading of the rules that goes line by line."""
        pick = random.Random(144)
        seen = {True: 0, False: 0}
        for _ in range(2500):
            text = changed(pick, some_text(pick, 4))
            wanted = wrong_line(text)
            seen[wanted is None] += 1
            if wanted is None:
                p = program_from(text)
                self.assertTrue(program_from(program_text(p)) == p, text)
            else:
                self.raises(BadText(wanted), program_from, text)
        self.assertGreater(min(seen.values()), 200)


if __name__ == "__main__":
    unittest.main()
