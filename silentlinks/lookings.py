"""What a house sees on its board of a tour."""

from silentlinks.stores import joined


def echoed_lot(lots, board, me, first):
    """The first asked lot whose cards all have heard of me a clock of at least first, None if there is none."""
    for lot in lots.asked:
        if all([board[x][1][me] >= first for x in lot]):
            return lot
    return None


def number_told(board, lot, put):
    """The greatest of the clocks of the lot's cards and the stamp numbers in the store put."""
    return max([board[x][0] for x in lot] + [triple[0] for triple in put])


def passed_lot(lots, board, number):
    """The first heard lot whose cards all have a clock of at least number, None if there is none."""
    for lot in lots.heard:
        if all([board[x][0] >= number for x in lot]):
            return lot
    return None


def result_told(board, lot):
    """The join of the stores of the lot's cards, in the order of lot."""
    stores = [board[x][2] for x in lot]
    return joined(*stores)
