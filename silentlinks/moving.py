"""A memory that moves from some lots to others."""

from silentlinks.amounts import check_number, is_below, is_row
from silentlinks.boards import clocks, heard_board
from silentlinks.deeds import is_deed
from silentlinks.errors import BadNumber, BadRows
from silentlinks.lookings import echoed_lot, passed_lot
from silentlinks.lots import Lots
from silentlinks.machines import Machine
from silentlinks.marks import blank_marked, joined_marked, with_closed, with_opened, with_stamp

MOST_ROWS = 4
MOST_REGISTERS = 8

# A state is (board, deed, turn, running, log), a tour (turn, lots, first, put, number, last, result, verdict).
VALID = "valid"
CLOSING = "closing"
AGAIN = "again"


def lots_row(rows):
    """The rows of lots as a tuple; BadRows(at) if they are none."""
    if not is_row(rows) or len(rows) == 0 or len(rows) > MOST_ROWS:
        raise BadRows(-1)
    for at, lots in enumerate(rows):
        if not isinstance(lots, Lots) or lots.houses != rows[0].houses:
            raise BadRows(at)
    return tuple(rows)


def valid_tours(log, turn):
    """The valid tours of the deed with this turn, in order."""
    return [tour for tour in log if tour[0] == turn and tour[7] == VALID]


def opened_told(log):
    """The lots that the closing tours of a house have opened, 0 if there are none."""
    return max([0] + [tour[1] + 1 for tour in log if tour[7] == CLOSING])


def known_marked(board):
    """The join of the stores of all cards."""
    return joined_marked([card[2] for card in board])


def begun_store(me, deed, valid, store):
    """The store with which a tour of a deed begins; valid are the deed's valid tours."""
    if deed[0] == "put" and len(valid) > 0:
        return with_stamp(store, deed[1], (valid[0][1], valid[0][4] + 1, me, deed[2]))
    if deed[0] == "move" and store[1] < deed[1]:
        return with_closed(store, store[1])
    return store


def with_new_card(state, me):
    """The state with the new card of me; the tour that is due begins with it."""
    board, deed, turn, running, log = state
    store = with_opened(known_marked(board), opened_told(log))
    begins = deed is not None and running is None
    if begins:
        store = begun_store(me, deed, valid_tours(log, turn), store)
    known = clocks(board)
    clock = known[me] + 1
    card = (clock, known[:me] + (clock,) + known[me + 1:], store)
    later = board[:me] + (card,) + board[me + 1:]
    if begins:
        running = (turn, store[1], clock, store, None, None, None, None)
    return (later, deed, turn, running, log)


def number_of(board, lot, tour):
    """The NUMBER of a tour that is echoed by this lot."""
    stamps = [stamp[1] for stamp in tour[3][0] if stamp[0] == tour[1]]
    return max([board[x][0] for x in lot] + stamps)


def verdict_of(tour, result):
    """The verdict of a tour that ends with this result."""
    if result[2] < tour[1]:
        return VALID
    return CLOSING if tour[3][2] >= tour[1] else AGAIN


def looked_tour(rows, board, me, tour, at):
    """A running tour behind a look in the tick with the number at."""
    turn, number_of_lots, first, put, number = tour[:5]
    lots = rows[number_of_lots]
    if number is None:
        echoed = echoed_lot(lots, board, me, first)
        if echoed is None:
            return tour
        number = number_of(board, echoed, tour)
    passed = passed_lot(lots, board, number)
    if passed is None:
        return (turn, number_of_lots, first, put, number, None, None, None)
    result = joined_marked([board[x][2] for x in passed])
    return (turn, number_of_lots, first, put, number, at, result, verdict_of(tour, result))


def answer_of(deed, valid):
    """The answer of a deed behind its valid tours, None if it needs more."""
    if len(valid) == 0:
        return None
    if deed[0] == "move":
        return deed[1]
    if len(valid) == 1 and (deed[0] == "put" or not is_still(valid[0], deed[1])):
        return None
    return deed[2] if deed[0] == "put" else valid[-1][3][0][deed[1]][3]


def is_still(tour, place):
    """Whether the result of a tour has no greater stamp at a register than its PUT."""
    return tour[6][0][place][:3] <= tour[3][0][place][:3]


def look(rows, state, me, at):
    """The state behind a look in the tick with the number at, and the answer, None if there is none."""
    board, deed, turn, running, log = state
    if running is None:
        return (state, None)
    if running[1] < known_marked(board)[1]:
        return ((board, deed, turn, None, log), None)
    tour = looked_tour(rows, board, me, running, at)
    if tour[5] is None:
        return ((board, deed, turn, tour, log), None)
    longer = log + (tour,)
    answer = answer_of(deed, valid_tours(longer, turn))
    return ((board, None if answer is not None else deed, turn, None, longer), answer)


class Moving(Machine):
    """A memory with rows of lots; its houses may close some and go on with the next ones."""

    def __init__(self, rows, *, registers=1):
        self.rows = lots_row(rows)
        self.houses = rows[0].houses
        if check_number(registers, "registers", 1) > MOST_REGISTERS:
            raise BadNumber("registers")
        self.registers = registers

    def fresh(self, me):
        """The board of blank cards, no deed and no tour."""
        card = (0, (0,) * self.houses, blank_marked(self.registers))
        return ((card,) * self.houses, None, -1, None, ())

    def begin(self, state, me, deed):
        """The deed is in progress, and counted."""
        board, _, turn, running, log = state
        return (board, deed, turn + 1, running, log)

    def hear(self, state, me, origin, sheet):
        """The board of the sheet is heard."""
        return (heard_board(state[0], sheet[0]),) + state[1:]

    def tick(self, state, me):
        """A look, a new card and a look."""
        number = state[0][me][0] + 1
        looked, early = look(self.rows, state, me, number)
        later, late = look(self.rows, with_new_card(looked, me), me, number)
        return (later, late if early is None else early)

    def admits(self, me, deed):
        """Whether deed is a get or a put of a register, or a move to further lots."""
        if is_deed(deed, "move", 1):
            return deed[1] >= 1 and is_below(deed[1], len(self.rows))
        if is_deed(deed, "get", 1) or is_deed(deed, "put", 2):
            return is_below(deed[1], self.registers)
        return False
