"""A touring machine with two sorts of lots, for its puts and for its gets."""

from silentlinks.deeds import is_deed
from silentlinks.lots import check_lots, check_same_houses
from silentlinks.tours import Touring


class Sided(Touring):
    """A touring machine with one register, which is put by some lots and got by others."""

    def __init__(self, puts, gets):
        self.puts = check_lots(puts)
        self.gets = check_lots(gets)
        check_same_houses(puts, gets)
        self.houses = puts.houses
        self.registers = 1

    def admits(self, me, deed):
        """Whether deed is a get or a put of register 0."""
        return (is_deed(deed, "get", 1) or is_deed(deed, "put", 2)) and deed[1] == 0

    def lots_for(self, deed):
        """The lots of a deed's tours."""
        return self.puts if deed[0] == "put" else self.gets

    def plan(self, me, turn, deed, done):
        """What a deed needs next, behind its done tours."""
        if deed[0] == "put":
            return ("whole", (0, (turn + 1, me, deed[2]))) if len(done) == 0 else ("answer", deed[2])
        return ("whole", None) if len(done) == 0 else ("answer", done[0][6][0][2])
