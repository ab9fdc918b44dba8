"""Boards: the card that is known of each house."""

from silentlinks.amounts import house_count
from silentlinks.stores import blank_store, joined


def blank_board(houses, many):
    """The board of blank cards for so many houses and registers."""
    house_count(houses)
    return ((0, (0,) * houses, blank_store(many)),) * houses


def heard_board(board, other):
    """For each house the card with the greater clock, that of board if the clocks are equal."""
    return tuple([late if late[0] > own[0] else own for own, late in zip(board, other)])


def clocks(board):
    """The clocks of the cards."""
    return tuple([card[0] for card in board])


def known_store(board):
    """The join of the stores of all cards, those of lesser houses first."""
    stores = [card[2] for card in board]
    return joined(*stores)


def new_board(board, me, extra):
    """The board with the new card of me, whose store is joined with the store extra unless that is None."""
    store = known_store(board)
    if extra is not None:
        store = joined(store, extra)
    known = clocks(board)
    clock = known[me] + 1
    heard = known[:me] + (clock,) + known[me + 1:]
    return board[:me] + ((clock, heard, store),) + board[me + 1:]
