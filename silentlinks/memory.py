"""The memory: a touring machine that keeps registers."""

from silentlinks.amounts import is_below, is_row
from silentlinks.deeds import is_deed
from silentlinks.errors import BadOwner
from silentlinks.lots import check_lots
from silentlinks.stores import greater_stamp
from silentlinks.tours import Touring

MOST_REGISTERS = 8


def owner_row(houses, owners):
    """The owners as a tuple; BadOwner(at) if they are no row of owners."""
    if not is_row(owners) or len(owners) == 0 or len(owners) > MOST_REGISTERS:
        raise BadOwner(-1)
    for at, owner in enumerate(owners):
        if owner is not None and not is_below(owner, houses):
            raise BadOwner(at)
    return tuple(owners)


def is_settled(tour, place):
    """Whether an ended tour is settled at a register."""
    return not greater_stamp(tour[6][place], tour[3][place])


def plan_get(place, done):
    """What a get of a register needs next."""
    if len(done) == 0 or (len(done) == 1 and not is_settled(done[0], place)):
        return ("whole", None)
    return ("answer", done[-1][3][place][2])


def plan_look(registers, done):
    """What a look at so many registers needs next."""
    if len(done) == 0 or not all([is_settled(done[-1], place) for place in range(registers)]):
        return ("whole", None)
    return ("answer", tuple([triple[2] for triple in done[-1][3]]))


def plan_free_put(me, place, value, done):
    """What a put of a house into a free register needs next."""
    if len(done) == 0:
        return ("half", None)
    if len(done) == 1:
        return ("whole", (place, (done[0][4] + 1, me, value)))
    return ("answer", value)


def plan_owned_put(me, turn, place, value, done):
    """What a put of a house into its own register needs next."""
    if len(done) == 0:
        return ("whole", (place, (turn + 1, me, value)))
    return ("answer", value)


class Memory(Touring):
    """A touring machine with registers, each free or owned by one house."""

    def __init__(self, lots, *, owners=(None,)):
        self.lots = check_lots(lots)
        self.houses = lots.houses
        self.owners = owner_row(lots.houses, owners)
        self.registers = len(self.owners)

    def admits(self, me, deed):
        """Whether deed is a look, a get, or a put into a register that is free or owned by me."""
        if is_deed(deed, "look", 0):
            return True
        if is_deed(deed, "get", 1):
            return is_below(deed[1], self.registers)
        if not is_deed(deed, "put", 2) or not is_below(deed[1], self.registers):
            return False
        return self.owners[deed[1]] is None or self.owners[deed[1]] == me

    def plan(self, me, turn, deed, done):
        """What a deed needs next, behind its done tours."""
        if deed[0] == "look":
            return plan_look(self.registers, done)
        if deed[0] == "get":
            return plan_get(deed[1], done)
        if self.owners[deed[1]] is None:
            return plan_free_put(me, deed[1], deed[2], done)
        return plan_owned_put(me, turn, deed[1], deed[2], done)
