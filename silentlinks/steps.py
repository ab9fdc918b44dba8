"""Blocks of programs, carried out on a state."""

from silentlinks.errors import NotAName
from silentlinks.reading import BLOCKS
from silentlinks.words import clip


def lots_of_table(program, name):
    """The lots of a table of the program."""
    return [lots for told, lots in program.tables if told == name][0]


def block_of_part(program, name):
    """The block of a part of the program."""
    return [block for told, block in program.parts if told == name][0]


def block_told(program, word):
    """The block of this word; NotAName(word) if it, of any kind, is the word of none."""
    if word not in BLOCKS:
        raise NotAName(word)
    return program.blocks[BLOCKS.index(word)]


def step_bound(houses, program, block):
    """How many steps carrying out this block takes at the most."""
    statements = block_told(program, block)
    bounds = {}
    # A part does only parts above it, so that their bounds are there when its own is worked out.
    for name, part in program.parts:
        bounds[name] = bound_of(houses, program, bounds, part)
    return bound_of(houses, program, bounds, statements)


def bound_of(houses, program, bounds, statements):
    """The bound of a block; bounds has those of the parts that it does."""
    return sum([statement_bound(houses, program, bounds, statement) for statement in statements])


def statement_bound(houses, program, bounds, statement):
    """How many steps carrying out a statement takes at the most."""
    word = statement[0]
    if word == "do":
        return 1 + bounds[statement[1]]
    if word == "if":
        inner = bound_of(houses, program, bounds, statement[2])
        return 1 + max(inner, bound_of(houses, program, bounds, statement[3]))
    if word == "each":
        return 1 + houses * bound_of(houses, program, bounds, statement[2])
    if word == "first":
        sizes = [len(lot) for lot in lots_of_table(program, statement[1])]
        inner = max(sizes) * bound_of(houses, program, bounds, statement[4])
        return 1 + sum(sizes) + max(bound_of(houses, program, bounds, statement[5]), inner)
    return 1


def placed(houses, program):
    """For each cell, row and grid where its numbers begin in a state, a dict."""
    found = {}
    at = 0
    for names, size in ((program.cells, 1), (program.rows, houses), (program.grids, houses * houses)):
        for name in names:
            found[name] = at
            at += size
    return found


def compared(first, sign, other):
    """Whether the sign of a test holds between two numbers."""
    if sign == "=":
        return first == other
    if sign == "!=":
        return first != other
    if sign == "<":
        return first < other
    if sign == "<=":
        return first <= other
    return first > other if sign == ">" else first >= other


def signed(first, sign, other):
    """The result of a sign of an expression."""
    if sign == "+":
        return clip(first + other)
    if sign == "-":
        return clip(first - other)
    return max(first, other) if sign == "max" else min(first, other)


class Stepper:
    """Carries out statements on the numbers of a house, and counts the steps."""

    def __init__(self, houses, program, state):
        self.houses = houses
        self.program = program
        self.numbers = list(state[0])
        # The number of the deed in progress, 0 if none is.
        self.kind = state[1]
        self.given = state[2]
        self.due = state[3]
        self.starts = placed(houses, program)
        self.steps = 0
        # What me, many and from are; without a sheet the terms behind their are 0.
        self.words = {}
        self.their = None

    def begin(self, me, origin, sheet):
        """Tells which house carries out the block, and the sheet it hears with its house; -1 and None if none."""
        self.words = {"me": me, "many": self.houses, "from": origin}
        self.their = None if sheet is None else sheet[0]

    def told(self):
        """The state as it stands."""
        return (tuple(self.numbers), self.kind, self.given, self.due)

    def place_of(self, term, loops):
        """Where in a state the number of a cell, row or grid stands; None if an index is no house."""
        at = 0
        for index in term[2]:
            house = self.value(index, loops)
            if house < 0 or house >= self.houses:
                return None
            at = at * self.houses + house
        return self.starts[term[1]] + at

    def value(self, term, loops):
        """The number of a term; loops is a dict of the loop names and their houses."""
        kind, name = term[0], term[1]
        if kind == "number":
            return clip(name)
        if kind == "loop":
            return loops[name]
        if kind == "word":
            return self.word(name)
        numbers = self.their if kind.startswith("their ") else self.numbers
        at = self.place_of(term, loops)
        return 0 if at is None or numbers is None else clip(numbers[at])

    def word(self, name):
        """The number of one of the words me, many, from, deed and given."""
        if name == "deed":
            return self.kind
        return self.given if name == "given" else self.words[name]

    def worked_out(self, expr, loops):
        """The number of an expression."""
        found = self.value(expr[0], loops)
        for sign, term in expr[1:]:
            found = signed(found, sign, self.value(term, loops))
        return found

    def holds(self, cond, loops):
        """Whether all tests of a head line hold."""
        for first, sign, other in cond:
            if not compared(self.worked_out(first, loops), sign, self.worked_out(other, loops)):
                return False
        return True

    def carry_out(self, statements, loops):
        """Carries out the statements of a block."""
        # Blocks may be nested hundreds deep through parts, so a level takes no more than one call.
        for statement in statements:
            self.steps += 1
            word = statement[0]
            if word == "set":
                self.assign(statement[1], self.worked_out(statement[2], loops), loops)
            elif word == "if":
                self.carry_out(statement[2] if self.holds(statement[1], loops) else statement[3], loops)
            elif word == "each":
                for house in range(self.houses):
                    self.carry_out(statement[2], with_house(loops, statement[1], house))
            elif word == "first":
                lot = self.fitting_lot(statement, loops)
                for house in lot:
                    self.carry_out(statement[4], with_house(loops, statement[2], house))
                if len(lot) == 0:
                    self.carry_out(statement[5], loops)
            elif word == "do":
                self.carry_out(block_of_part(self.program, statement[1]), {})
            elif self.kind != 0 and self.due is None:
                self.due = self.worked_out(statement[1], loops)

    def assign(self, target, number, loops):
        """Gives a cell, row or grid at its indexes this number."""
        at = self.place_of(target, loops)
        if at is not None:
            self.numbers[at] = number

    def fitting_lot(self, statement, loops):
        """The lot that a statement first takes, () if there is none."""
        for lot in lots_of_table(self.program, statement[1]):
            if self.fits_tests(lot, statement[2], statement[3], loops):
                return lot
        return ()

    def fits_tests(self, lot, name, cond, loops):
        """Whether the tests hold for each member of a lot; behind the first other one it is left."""
        for house in lot:
            self.steps += 1
            if not self.holds(cond, with_house(loops, name, house)):
                return False
        return True


def with_house(loops, name, house):
    """The loop names and their houses with a further one."""
    found = {key: loops[key] for key in loops}
    found[name] = house
    return found


def do_block(houses, program, block, state, me, origin, sheet):
    """The state behind this block, and the number of steps."""
    statements = block_told(program, block)
    stepper = Stepper(houses, program, state)
    if block == "hear":
        stepper.begin(me, origin, sheet)
    else:
        stepper.begin(me, -1, None)
    stepper.carry_out(statements, {})
    return (stepper.told(), stepper.steps)
