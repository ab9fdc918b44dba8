"""What the tests of programs share: random programs, and readings of [140] to [147] line by line."""

import operator
import re

from silentlinks.words import RESERVED

TOP = 10 ** 12
POOL = ["a", "b", "s", "count", "k", "row", "h", "net", "w", "v", "p", "q", "j", "i", "x", "y", "maxi", "twelveletter"]
NUMBERS = ["0", "1", "2", "3", "7", "12", str(TOP), str(TOP + 1), str(TOP - 1), "9" * 30]
SIGNS = ("+", "-", "max", "min")
TESTS = {"=": operator.eq, "!=": operator.ne, "<": operator.lt, "<=": operator.le, ">": operator.gt, ">=": operator.ge}


class Writer:
    """Writes a random program in the one form of [148]."""

    def __init__(self, pick, most_level=4):
        self.pick, self.most_level = pick, most_level
        names = pick.sample(POOL, len(POOL))
        self.kinds = {kind: [names.pop() for _ in range(pick.randint(1, 2))] for kind in ("cells", "rows", "grids", "lots")}
        if pick.random() < 0.1:
            self.kinds = {"cells": [names.pop()], "rows": [], "grids": [], "lots": []}
        self.loops, self.parts = names[:4], names[4:6]
        self.done, self.lines = [], ["machine " + names[6]]
        for kind in ("cells", "rows", "grids"):
            if self.kinds[kind]:
                self.lines.append(" ".join([kind] + self.kinds[kind]))
        for name in self.kinds["lots"]:
            self.lines.append(f"lots {name} " + "; ".join(self.lot() for _ in range(pick.randint(1, 4))))
        for name in self.parts[:pick.randint(0, 2)]:
            self.lines.append("part " + name)
            self.block(1, ())
            self.done.append(name)
        for word in ("begin", "hear", "tick"):
            if pick.random() < 0.8:
                self.lines.append(word)
                self.block(1, ())

    def lot(self):
        return " ".join(str(h) for h in self.pick.sample(range(3), self.pick.randint(1, 3)))

    def index(self, loops):
        return self.pick.choice(["0", "1", "9", "me", "from"] + self.kinds["cells"] + list(loops) * 3)

    def place(self, loops):
        kind = self.pick.choice([kind for kind in ("cells", "rows", "grids") if self.kinds[kind]])
        many = {"cells": 0, "rows": 1, "grids": 2}[kind]
        return self.pick.choice(self.kinds[kind]) + "".join(f"[{self.index(loops)}]" for _ in range(many))

    def term(self, loops):
        kind = self.pick.random()
        if kind < 0.5:
            return self.place(loops)
        if kind < 0.7:
            return "their " + self.place(loops)
        return self.pick.choice(NUMBERS + ["me", "many", "from", "deed", "given"] * 2 + list(loops) * 3)

    def expr(self, loops):
        words = [self.term(loops)]
        while self.pick.random() < 0.45:
            words += [self.pick.choice(SIGNS), self.term(loops)]
        return " ".join(words)

    def cond(self, loops):
        tests = [f"{self.expr(loops)} {self.pick.choice(list(TESTS))} {self.expr(loops)}" for _ in range(self.pick.choice((1, 1, 2)))]
        return " and ".join(tests)

    def block(self, level, loops):
        for _ in range(self.pick.choice((1, 1, 2, 3))):
            self.statement(level, loops)

    def head(self, level, text, loops, other=None):
        self.lines.append("  " * level + text)
        self.block(level + 1, loops)
        if other is not None and self.pick.random() < 0.5:
            self.lines.append("  " * level + "else")
            self.block(level + 1, other)

    def statement(self, level, loops):
        free = [name for name in self.loops if name not in loops]
        kind = self.pick.random()
        if level < self.most_level and kind < 0.2:
            self.head(level, "if " + self.cond(loops), loops, loops)
        elif level < self.most_level and free and kind < 0.35:
            self.head(level, "each " + free[0], loops + (free[0],))
        elif level < self.most_level and free and self.kinds["lots"] and kind < 0.5:
            inner = loops + (free[-1],)
            self.head(level, f"first {self.pick.choice(self.kinds['lots'])} {free[-1]} needs {self.cond(inner)}", inner, loops)
        elif self.done and kind < 0.6:
            self.lines.append("  " * level + "do " + self.pick.choice(self.done))
        elif kind < 0.7:
            self.lines.append("  " * level + "answer " + self.expr(loops))
        else:
            self.lines.append("  " * level + f"{self.place(loops)} = {self.expr(loops)}")


def some_text(pick, most_level=4):
    return "\n".join(Writer(pick, most_level).lines)


def clipped(number):
    return -TOP if number < -TOP else TOP if number > TOP else number


class Runner:
    """Runs a program in the one form from its lines, which it turns into Python; the states are those of told.py."""

    def __init__(self, houses, text):
        self.houses, self.lines, self.at = houses, text.split("\n"), 1
        self.places, self.tables, self.size = {}, {}, 0
        code, heads = [], []
        while self.at < len(self.lines):
            words = self.lines[self.at].split()
            self.at += 1
            if words[0] in ("cells", "rows", "grids"):
                for name in words[1:]:
                    self.places[name] = self.size
                    self.size += houses ** ("cells", "rows", "grids").index(words[0])
            elif words[0] == "lots":
                lots = " ".join(words[2:]).split(";")
                self.tables[words[1]] = [[int(h) for h in lot.split()] for lot in lots]
            else:
                heads.append(words[0])
                code += [f"def {'_'.join(words)}():"] + ["    pass"] + self.block(1)
        self.names = {
            "get": self.get, "put": self.put, "step": self.step, "fits": self.fits, "answer": self.answer, "clip": clipped,
            "tables": self.tables, "self": self, "many": houses}
        exec("\n".join(code), self.names)

    def block(self, level):
        code = []
        while self.at < len(self.lines) and self.lines[self.at].startswith("  " * level):
            line = self.lines[self.at][2 * level:]
            self.at += 1
            code += ["    " + told for told in self.statement(line, level)]
        return code

    def statement(self, line, level):
        words = line.split()
        if words[0] == "if":
            code = ["step()", f"if {self.cond(words[1:])}:"] + self.block(level + 1)
        elif words[0] == "each":
            return ["step()", f"for L{words[1]} in range(many):"] + self.block(level + 1)
        elif words[0] == "first":
            test = f"lambda L{words[2]}: {self.cond(words[4:])}"
            code = ["step()", f"lot{level} = next((lot for lot in tables['{words[1]}'] if fits(lot, {test})), None)",
                    f"for L{words[2]} in lot{level} or []:"] + self.block(level + 1)
            if self.behind(level):
                code += [f"if lot{level} is None:"] + self.block(level + 1)
            return code
        elif words[0] == "do":
            return ["step()", f"part_{words[1]}()"]
        elif words[0] == "answer":
            return ["step()", f"answer({self.expr(words[1:])})"]
        else:
            name, *indexes = re.findall("[a-z0-9]+", words[0])
            return ["step()", f"put({self.expr(words[2:])}, {name!r}, [{', '.join(map(self.word, indexes))}])"]
        if self.behind(level):
            code += ["else:"] + self.block(level + 1)
        return code

    def behind(self, level):
        found = self.at < len(self.lines) and self.lines[self.at] == "  " * level + "else"
        self.at += found
        return found

    def word(self, text):
        if text.isdigit():
            return f"clip({text})"
        if text in ("me", "many", "from", "deed", "given"):
            return "many" if text == "many" else f"self.{'origin' if text == 'from' else text}"
        if re.split(r"\[", text)[0] in self.places:
            name, *indexes = re.findall("[a-z0-9]+", text)
            return f"get(self.own, {name!r}, [{', '.join(map(self.word, indexes))}])"
        return "L" + text

    def expr(self, words):
        words, found, sign = list(words), None, None
        while words:
            word = words.pop(0)
            if word == "their":
                term = self.word(words.pop(0)).replace("self.own", "self.their", 1)
            else:
                term = self.word(word)
            if sign is None:
                found = term
            else:
                found = f"{sign}({found}, {term})" if sign in ("max", "min") else f"clip({found} {sign} {term})"
            sign = words.pop(0) if words else None
        return found

    def cond(self, words):
        told = []
        for test in " ".join(words).split(" and "):
            at = [k for k, word in enumerate(test.split()) if word in TESTS][0]
            sign = test.split()[at]
            told.append(f"{self.expr(test.split()[:at])} {'==' if sign == '=' else sign} {self.expr(test.split()[at + 1:])}")
        return " and ".join(told)

    def slot(self, name, indexes):
        if any(h < 0 or h >= self.houses for h in indexes):
            return None
        return self.places[name] + sum(h * self.houses ** k for k, h in enumerate(reversed(indexes)))

    def get(self, numbers, name, indexes):
        at = self.slot(name, indexes)
        return 0 if at is None or numbers is None else numbers[at]

    def put(self, number, name, indexes):
        at = self.slot(name, indexes)
        if at is not None:
            self.own[at] = number

    def step(self):
        self.steps += 1

    def fits(self, lot, test):
        for h in lot:
            self.steps += 1
            if not test(h):
                return False
        return True

    def answer(self, number):
        if self.deed != 0 and self.due is None:
            self.due = number

    def do(self, block, state, me, origin=-1, sheet=None):
        """The state behind a block, and the steps."""
        self.own, (self.deed, self.given, self.due) = list(state[0]), state[1:]
        self.me, self.origin, self.their, self.steps = me, origin, None if sheet is None else sheet[0], 0
        self.names.get(block, lambda: None)()
        return (tuple(self.own), self.deed, self.given, self.due), self.steps


# What may be wrong with a line is looked at again, line by line and without a tree.

def is_name(word):
    return re.fullmatch("[a-z]{1,12}", word) is not None and word not in RESERVED


def is_number(word):
    return re.fullmatch("0|[1-9][0-9]{0,29}", word) is not None


class Checker:
    """Finds the first wrong line of a program's text."""

    def __init__(self, text):
        self.kinds, self.loops_ever, self.parts, self.blocks = {}, set(), [], []
        self.stack, self.empty, self.body = [], False, False
        self.rows = [(k + 1, line) for k, line in enumerate(text.split("\n")) if line.strip(" ") and line.strip(" ")[0] != "#"]
        self.many = len(text.split("\n"))

    def wrong(self):
        if not self.rows:
            return self.many
        for at, (number, line) in enumerate(self.rows):
            if at == 300 or not self.takes(at, line):
                return number
        return self.rows[-1][0] if self.empty else None

    def takes(self, at, line):
        blanks = len(line) - len(line.lstrip(" "))
        level, words = blanks // 2, [word for word in line.split(" ") if word]
        if blanks % 2 or level > 8 or level > len(self.stack) or self.empty and level != len(self.stack):
            return False
        behind = self.stack[level][0] if level < len(self.stack) else None
        if level < len(self.stack) and level == 0 and self.stack[0][0] == "part":
            self.parts.append(self.stack[0][1])
        del self.stack[level:]
        self.empty = False
        if at == 0:
            return level == 0 and len(words) == 2 and words[0] == "machine" and self.declare(words[1:], "machine")
        if level == 0:
            return self.outer(words)
        return self.inner(words, behind)

    def declare(self, names, kind):
        for name in names:
            if not is_name(name) or name in self.kinds or name in self.loops_ever:
                return False
            self.kinds[name] = kind
        return len(names) > 0

    def open(self, word, loop=None):
        self.stack.append((word, loop))
        self.empty = True
        return True

    def outer(self, words):
        if words[0] in ("cells", "rows", "grids"):
            return not self.body and self.declare(words[1:], words[0][:-1])
        if words[0] == "lots":
            if self.body or not self.declare(words[1:2], "lots"):
                return False
            lots = [lot.split(" ") for lot in " ".join(words[2:]).split(";")]
            lots = [[h for h in lot if h] for lot in lots]
            return all(lot and len(set(lot)) == len(lot) and all(re.fullmatch("[0-6]", h) for h in lot) for lot in lots)
        self.body = True
        if words[0] == "part":
            return len(words) == 2 and self.declare(words[1:], "part") and self.open("part", words[1])
        if len(words) == 1 and words[0] in ("begin", "hear", "tick") and words[0] not in self.blocks:
            self.blocks.append(words[0])
            return self.open(words[0])
        return False

    def loops(self):
        return [loop for word, loop in self.stack if word in ("each", "first")]

    def loop(self, name):
        if not is_name(name) or name in self.kinds or name in self.loops():
            return False
        self.loops_ever.add(name)
        return True

    def inner(self, words, behind):
        if words[0] == "if":
            return self.cond(words[1:], self.loops()) and self.open("if")
        if words[0] == "each":
            return len(words) == 2 and self.loop(words[1]) and self.open("each", words[1])
        if words[0] == "first":
            if len(words) < 5 or self.kinds.get(words[1]) != "lots" or words[3] != "needs" or not self.loop(words[2]):
                return False
            return self.cond(words[4:], self.loops() + [words[2]]) and self.open("first", words[2])
        if words == ["else"]:
            return behind in ("if", "first") and self.open("else")
        if words[0] == "do":
            return len(words) == 2 and words[1] in self.parts
        if words[0] == "answer":
            return self.expr(words[1:], self.loops())
        return len(words) > 1 and words[1] == "=" and self.place(words[0], self.loops()) and self.expr(words[2:], self.loops())

    def place(self, word, loops):
        index = r"\[([a-z]+|[0-9]+)\]"
        for kind, form in (("cell", "([a-z]+)"), ("row", "([a-z]+)" + index), ("grid", "([a-z]+)" + index + index)):
            found = re.fullmatch(form, word)
            if found and self.kinds.get(found[1]) == kind:
                return all(is_number(x) or x in ("me", "from") or self.kinds.get(x) == "cell" or x in loops
                           for x in found.groups()[1:])
        return False

    def expr(self, words, loops):
        term, words = [], list(words) + ["+"]
        while words:
            word = words.pop(0)
            if word not in SIGNS:
                term.append(word)
                continue
            if len(term) == 2 and term[0] == "their":
                fits = self.place(term[1], loops)
            else:
                fits = len(term) == 1 and (
                    is_number(term[0]) or term[0] in ("me", "many", "from", "deed", "given") or term[0] in loops
                    or self.place(term[0], loops))
            if not fits:
                return False
            term = []
        return True

    def cond(self, words, loops):
        for test in re.split(r"(?<!\S)and(?!\S)", " ".join(words)):
            at = [k for k, word in enumerate(test.split(" ")) if word in TESTS]
            told = test.split(" ")
            if len(at) != 1:
                return False
            first, other = [x for x in told[:at[0]] if x], [x for x in told[at[0] + 1:] if x]
            if not self.expr(first, loops) or not self.expr(other, loops):
                return False
        return True


def wrong_line(text):
    """The first wrong line of a program's text, None if there is none."""
    return Checker(text).wrong()
