"""Programs, read from texts."""

from silentlinks.errors import BadText
from silentlinks.terms import cond_in, expr_in, place_in
from silentlinks.texts import counted_lines, number_in, words_in
from silentlinks.trees import Program
from silentlinks.words import is_name

MOST_LINES = 300
MOST_LEVEL = 8
MOST_LOT_HOUSE = 6
KINDS = {"cells": "cell", "rows": "row", "grids": "grid"}
BLOCKS = ("begin", "hear", "tick")


def level_of(line):
    """The level of a line that counts, None if no level fits it."""
    blanks = len(line) - len(line.lstrip(" "))
    return None if blanks % 2 == 1 else blanks // 2


def told_lines(text):
    """Tuples (number, level, words) of the lines that count; one beyond the limit is told, too."""
    rows = [(number, level_of(line), words_in(line)) for number, line in counted_lines(text)]
    # The first line beyond the limit fits no rule, as one that has no level does not.
    over = [(number, None, words) for number, level, words in rows[MOST_LINES:MOST_LINES + 1]]
    return rows[:MOST_LINES] + over


def lot_in(piece):
    """The lot that a piece of a line writes, None if it writes none."""
    houses = []
    for word in words_in(piece):
        house = number_in(word)
        if house is None or house > MOST_LOT_HOUSE or house in houses:
            return None
        houses.append(house)
    return None if len(houses) == 0 else tuple(houses)


class Reader:
    """Goes through the lines of a program that count, at least one."""

    def __init__(self, text):
        self.lines = told_lines(text)
        # The position of the next line, and the number of the last one that was taken.
        self.at = 0
        self.line = 0
        # For each declared name its kind, and all names that were loop names anywhere.
        self.names = {}
        self.looped = {}
        self.tables = []
        self.sections = []
        self.blocks = {}

    def wrong_next(self):
        """BadText of the next line, of the last one if there is none."""
        at = min(self.at, len(self.lines) - 1)
        raise BadText(self.lines[at][0])

    def require(self, fits):
        """BadText of the line taken last unless it fits."""
        if not fits:
            raise BadText(self.line)

    def stands_at(self, level):
        """Whether there is a next line, and it is of this level."""
        return self.at < len(self.lines) and self.lines[self.at][1] == level

    def next_is(self, level, words):
        """Whether there is a next line, and it is of this level and begins with one of these words."""
        return self.stands_at(level) and self.lines[self.at][2][0] in words

    def take(self, level):
        """The words of the next line, which must be of this level."""
        if not self.stands_at(level):
            self.wrong_next()
        number, found, words = self.lines[self.at]
        self.at += 1
        self.line = number
        return words

    def declare(self, name, kind):
        """Declares a name."""
        self.require(is_name(name) and name not in self.names and name not in self.looped)
        self.names[name] = kind

    def whole_program(self):
        """The Program of all lines."""
        words = self.take(0)
        self.require(len(words) == 2 and words[0] == "machine")
        self.declare(words[1], "machine")
        while self.next_is(0, ("cells", "rows", "grids", "lots")):
            self.read_declaration(self.take(0))
        while self.at < len(self.lines):
            self.read_section(self.take(0))
        blocks = tuple([self.blocks.get(word, ()) for word in BLOCKS])
        cells, rows, grids = self.named("cell"), self.named("row"), self.named("grid")
        return Program(self.named("machine")[0], cells, rows, grids, tuple(self.tables), tuple(self.sections), blocks)

    def named(self, kind):
        """The names declared of this kind, in order."""
        return tuple([name for name in self.names if self.names[name] == kind])

    def read_declaration(self, words):
        """Reads the declaration that the words of a line write."""
        self.require(len(words) > 1)
        if words[0] == "lots":
            self.declare(words[1], "lots")
            lots = tuple([lot_in(piece) for piece in " ".join(words[2:]).split(";")])
            self.require(None not in lots)
            self.tables.append((words[1], lots))
        else:
            for name in words[1:]:
                self.declare(name, KINDS[words[0]])

    def read_section(self, words):
        """Reads a part or one of the three blocks, whose head line has these words."""
        if words[0] == "part":
            self.require(len(words) == 2)
            self.declare(words[1], "part")
            self.sections.append((words[1], self.block(1, ())))
        else:
            self.require(len(words) == 1 and words[0] in BLOCKS and words[0] not in self.blocks)
            self.blocks[words[0]] = self.block(1, ())

    def block(self, level, loops):
        """The statements of this level that come next, at least one."""
        if level > MOST_LEVEL:
            self.wrong_next()
        statements = [self.statement(level, loops)]
        while self.stands_at(level):
            statements.append(self.statement(level, loops))
        return tuple(statements)

    def statement(self, level, loops):
        """The statement that comes next, with its blocks."""
        words = self.take(level)
        if words[0] == "if":
            cond = self.held(cond_in(self.names, loops, words[1:]))
            block = self.block(level + 1, loops)
            return ("if", cond, block, self.else_block(level, loops))
        if words[0] == "each":
            self.require(len(words) == 2)
            inner = self.with_loop(loops, words[1])
            return ("each", words[1], self.block(level + 1, inner))
        if words[0] == "first":
            return self.first_statement(level, loops, words)
        return self.plain_statement(loops, words)

    def first_statement(self, level, loops, words):
        """The statement first, whose head line has these words."""
        self.require(len(words) > 4 and words[3] == "needs" and self.names.get(words[1]) == "lots")
        inner = self.with_loop(loops, words[2])
        cond = self.held(cond_in(self.names, inner, words[4:]))
        block = self.block(level + 1, inner)
        return ("first", words[1], words[2], cond, block, self.else_block(level, loops))

    def else_block(self, level, loops):
        """The block of the else that comes next, () if none does."""
        if not self.next_is(level, ("else",)):
            return ()
        words = self.take(level)
        self.require(len(words) == 1)
        return self.block(level + 1, loops)

    def plain_statement(self, loops, words):
        """The statement without a block that these words write."""
        if words[0] == "do":
            self.require(len(words) == 2 and words[1] in [name for name, block in self.sections])
            return ("do", words[1])
        if words[0] == "answer":
            return ("answer", self.held(expr_in(self.names, loops, words[1:])))
        self.require(len(words) > 2 and words[1] == "=")
        target = self.held(place_in(self.names, loops, words[0]))
        return ("set", target, self.held(expr_in(self.names, loops, words[2:])))

    def held(self, found):
        """What was read from the line taken last; BadText if that is None."""
        self.require(found is not None)
        return found

    def with_loop(self, loops, name):
        """The loop names with a further one."""
        self.require(is_name(name) and name not in self.names and name not in loops)
        self.looped[name] = True
        return loops + (name,)


def program_from(text):
    """The Program that a text writes; BadText(line) with the first wrong line."""
    if len(counted_lines(text)) == 0:
        raise BadText(text.count("\n") + 1)
    return Reader(text).whole_program()
