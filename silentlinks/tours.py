"""Touring machines: they carry out a deed by tours, one after another."""

from silentlinks.amounts import is_below
from silentlinks.boards import blank_board, heard_board, new_board
from silentlinks.deeds import is_deed
from silentlinks.errors import NoTick
from silentlinks.lookings import echoed_lot, number_told, passed_lot, result_told
from silentlinks.lots import check_lots
from silentlinks.machines import Machine
from silentlinks.stores import blank_store, stamped

# A state is (board, deed, turn, running, log), a tour (turn, half, first, put, number, last, result).


class Touring(Machine):
    """A touring machine with a register for each house, into which its tours put their numbers."""

    def __init__(self, lots):
        self.lots = check_lots(lots)
        self.houses = lots.houses
        self.registers = lots.houses

    def admits(self, me, deed):
        """Whether deed is a tour with a number."""
        return is_deed(deed, "tour", 1)

    def lots_for(self, deed):
        """The lots of a deed's tours."""
        return self.lots

    def plan(self, me, turn, deed, done):
        """What a deed needs next, behind its done tours."""
        if len(done) == 0:
            return ("whole", (me, (turn + 1, me, deed[1])))
        return ("answer", deed[1])

    def fresh(self, me):
        """The board of blank cards, no deed and no tour."""
        return (blank_board(self.houses, self.registers), None, -1, None, ())

    def begin(self, state, me, deed):
        """The deed is in progress, and counted."""
        board, _, turn, running, log = state
        return (board, deed, turn + 1, running, log)

    def hear(self, state, me, origin, sheet):
        """The board of the sheet is heard."""
        return (heard_board(state[0], sheet[0]),) + state[1:]

    def tick(self, state, me):
        """A look, a new card and a look."""
        number = state[0][me][0] + 1
        looked, early = look(self, state, me, number)
        later, late = look(self, with_new_card(self, looked, me), me, number)
        return (later, late if early is None else early)


def done_tours(log, turn):
    """The done tours of the deed with this turn, in order."""
    return tuple([tour for tour in log if tour[0] == turn])


def with_new_card(machine, state, me):
    """The state with the new card of me; the tour that is due begins with it."""
    board, deed, turn, running, log = state
    if deed is None or running is not None:
        return (new_board(board, me, None), deed, turn, running, log)
    kind, made = machine.plan(me, turn, deed, done_tours(log, turn))
    extra = None if made is None else stamped(blank_store(machine.registers), made[0], made[1])
    later = new_board(board, me, extra)
    clock, _, store = later[me]
    return (later, deed, turn, (turn, kind == "half", clock, store, None, None, None), log)


def looked_tour(lots, board, me, tour, at):
    """A running tour behind a look in the tick with the number at."""
    turn, half, first, put, number = tour[:5]
    if number is None:
        echoed = echoed_lot(lots, board, me, first)
        if echoed is None:
            return tour
        number = number_told(board, echoed, put)
    if half:
        return (turn, half, first, put, number, at, None)
    passed = passed_lot(lots, board, number)
    if passed is None:
        return (turn, half, first, put, number, None, None)
    return (turn, half, first, put, number, at, result_told(board, passed))


def look(machine, state, me, at):
    """The state behind a look in the tick with the number at, and the answer, None if there is none."""
    board, deed, turn, running, log = state
    if running is None:
        return (state, None)
    tour = looked_tour(machine.lots_for(deed), board, me, running, at)
    if tour[5] is None:
        return ((board, deed, turn, tour, log), None)
    longer = log + (tour,)
    kind, told = machine.plan(me, turn, deed, done_tours(longer, turn))
    if kind == "answer":
        return ((board, None, turn, None, longer), told)
    return ((board, deed, turn, None, longer), None)


def tours_of(state):
    """The done tours of a house, with the running one behind them if there is one."""
    return state[4] if state[3] is None else state[4] + (state[3],)


def tours_in(world):
    """A list of tuples (house, tour) of all tours, house by house."""
    rows = []
    for house in range(world.houses):
        for tour in tours_of(world.state(house)):
            rows.append((house, tour))
    return rows


def tick_time(schedule, house, number):
    """The time of the tick of house with this number; NoTick(house, number) if there is none."""
    times = [time for time, event in enumerate(schedule) if event == ("tick", house)]
    if not is_below(number, len(times) + 1) or number == 0:
        raise NoTick(house, number)
    return times[number - 1]
