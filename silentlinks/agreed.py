"""A machine whose houses agree on rows of deeds."""

from silentlinks.amounts import check_number, is_below
from silentlinks.boards import heard_board
from silentlinks.deeds import is_deed
from silentlinks.lots import check_lots
from silentlinks.machines import Machine
from silentlinks.replay import REGISTERS, answer_in
from silentlinks.viewing import leader_of, view_at

# A state is (board, wish, turn, agreed), a card (clock, accepted, proposed, wish, agreed); accepted and
# proposed are (view, row), a wish is (house, turn, deed).
BLANK_CARD = (0, (-1, ()), (-1, ()), None, ())


def accepted_view(lot, board):
    """The view that all members of a lot have accepted last, None if there is none."""
    views = [board[x][1][0] for x in lot]
    return views[0] if views[0] >= 0 and all([view == views[0] for view in views]) else None


def chosen_row(lots, board):
    """The row accepted with the greatest view that some asked lot has accepted, () if there is none."""
    last = -1
    row = ()
    for lot in lots.asked:
        view = accepted_view(lot, board)
        if view is not None and view > last:
            last, row = board[lot[0]][1]
    return row


def agreed_next(lots, board, agreed):
    """The agreed row behind what a tick finds on the board."""
    longest = agreed
    for row in [chosen_row(lots, board)] + [card[4] for card in board]:
        if len(row) > len(longest):
            longest = row
    return longest


def is_ready(base, board, me, view, house):
    """Whether a member of a heard lot is ready for a view of the leader me."""
    clock, accepted = board[house][0], board[house][1]
    if accepted[0] >= view:
        return False
    return house == me or (clock >= 1 and view_at(base, clock) >= view)


def ready_lot(machine, board, me, view):
    """The first heard lot whose members are all ready, None if there is none."""
    for lot in machine.lots.heard:
        if all([is_ready(machine.base, board, me, view, house) for house in lot]):
            return lot
    return None


def proposed_row(board, me, wish, lot):
    """The row that the leader me proposes behind the cards of a heard lot."""
    # All rows that are accepted with one view are the same one.
    row = max([board[house][1] for house in lot])[1]
    wishes = [board[house][3] for house in range(len(board)) if house != me] + [wish]
    # They are of unlike houses, so that the deeds in them are not compared.
    return row + tuple(sorted([told for told in wishes if told is not None and told not in row]))


def proposed_next(machine, board, me, view, wish):
    """What the new card of me has proposed."""
    proposed = board[me][2]
    if leader_of(machine.houses, view) != me or proposed[0] == view:
        return proposed
    lot = ready_lot(machine, board, me, view)
    if lot is None:
        return proposed
    row = proposed_row(board, me, wish, lot)
    return proposed if row == () else (view, row)


def accepted_next(machine, board, me, view, proposed):
    """What the new card of me, which has proposed this, has accepted."""
    leader = leader_of(machine.houses, view)
    told = proposed if leader == me else board[leader][2]
    return told if told[0] == view else board[me][1]


class Agreed(Machine):
    """A machine that answers deeds by one row of wishes, on which its houses agree."""

    def __init__(self, lots, *, base=6):
        self.lots = check_lots(lots)
        self.base = check_number(base, "base", 1)
        self.houses = lots.houses

    def fresh(self, me):
        """Blank cards, no wish, nothing agreed."""
        return ((BLANK_CARD,) * self.houses, None, -1, ())

    def begin(self, state, me, deed):
        """The deed becomes the wish of me."""
        board, _, turn, agreed = state
        return (board, (me, turn + 1, deed), turn + 1, agreed)

    def hear(self, state, me, origin, sheet):
        """The board of the sheet is heard."""
        return (heard_board(state[0], sheet[0]),) + state[1:]

    def tick(self, state, me):
        """Takes over what is agreed, proposes and accepts in the view of the new clock, and makes a new card."""
        board, wish, turn, old = state
        clock = board[me][0] + 1
        view = view_at(self.base, clock)
        agreed = agreed_next(self.lots, board, old)
        proposed = proposed_next(self, board, me, view, wish)
        accepted = accepted_next(self, board, me, view, proposed)
        later = board[:me] + ((clock, accepted, proposed, wish, agreed),) + board[me + 1:]
        if wish is not None and wish in agreed:
            return ((later, None, turn, agreed), answer_in(agreed, wish))
        return ((later, wish, turn, agreed), None)

    def admits(self, me, deed):
        """Whether deed is a put, get or add_if of one of eight registers, or a propose."""
        if is_deed(deed, "propose", 1):
            return True
        if is_deed(deed, "put", 2) or is_deed(deed, "get", 1) or is_deed(deed, "add_if", 3):
            return is_below(deed[1], REGISTERS)
        return False
