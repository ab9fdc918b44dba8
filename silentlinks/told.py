"""Machines that are told by programs."""

from silentlinks.amounts import house_count, house_of
from silentlinks.deeds import is_deed
from silentlinks.errors import BadProgram, NotAName
from silentlinks.machines import Machine
from silentlinks.reading import program_from
from silentlinks.steps import do_block, placed
from silentlinks.trees import Program
from silentlinks.words import clip

# For the word of each deed that is taken the number that the program sees.
NUMBERS = {"get": 1, "put": 2, "propose": 3, "tour": 4}


class Told(Machine):
    """The machine of a program; its states are (numbers, deed, given, due)."""

    def __init__(self, houses, program):
        self.houses = house_count(houses)
        if not isinstance(program, Program):
            raise BadProgram()
        for name, lots in program.tables:
            for lot in lots:
                for house in lot:
                    house_of(houses, house)
        self.program = program

    def fresh(self, me):
        """All numbers 0, no deed and no answer."""
        program = self.program
        many = len(program.cells) + self.houses * (len(program.rows) + self.houses * len(program.grids))
        return ((0,) * many, 0, 0, None)

    def begin(self, state, me, deed):
        """The deed is set, then the block begin is carried out."""
        given = 0 if deed[0] == "get" else deed[-1]
        told = (state[0], NUMBERS[deed[0]], given, state[3])
        return do_block(self.houses, self.program, "begin", told, me, -1, None)[0]

    def hear(self, state, me, origin, sheet):
        """The block hear is carried out."""
        return do_block(self.houses, self.program, "hear", state, me, origin, sheet)[0]

    def tick(self, state, me):
        """The block tick is carried out; an answer that stands is given."""
        later = do_block(self.houses, self.program, "tick", state, me, -1, None)[0]
        if later[3] is None:
            return (later, None)
        return ((later[0], 0, 0, None), later[3])

    def admits(self, me, deed):
        """Whether deed is a get or put of register 0, a propose or a tour, with a number that is beyond no end."""
        if is_deed(deed, "get", 1):
            return deed[1] == 0
        if is_deed(deed, "put", 2):
            return deed[1] == 0 and clip(deed[2]) == deed[2]
        return (is_deed(deed, "propose", 1) or is_deed(deed, "tour", 1)) and clip(deed[1]) == deed[1]

    def held_at(self, state, name, *indexes):
        """The number of a cell, of a row at one house, or of a grid at two houses."""
        starts = placed(self.houses, self.program)
        if name not in starts:
            raise NotAName(name)
        at = 0
        for house in indexes:
            at = at * self.houses + house
        return state[0][starts[name] + at]

    @classmethod
    def read(cls, houses, text):
        """The Told of the program that a text writes."""
        house_count(houses)
        return cls(houses, program_from(text))
