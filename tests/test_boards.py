"""Boards and looks: points [12] and [160], and silentlinks/boards.py and lookings.py."""

import random
import unittest

from silentlinks.boards import blank_board, clocks, heard_board, known_store, new_board
from silentlinks.errors import BadHouses, BadNumber
from silentlinks.lookings import echoed_lot, number_told, passed_lot, result_told
from silentlinks.stores import joined
from support import NO_NUMBERS, LinksCase, some_lots
from test_stores import some_store


def some_board(pick, houses, many):
    return tuple(
        (pick.randint(0, 6), tuple(pick.randint(0, 6) for _ in range(houses)), some_store(pick, many)) for _ in range(houses))


def boards(seed, many):
    """Boards put together by hand."""
    pick = random.Random(seed)
    for _ in range(many):
        houses, registers = pick.randint(1, 4), pick.randint(1, 3)
        yield pick, some_board(pick, houses, registers), some_board(pick, houses, registers)


class Boards(LinksCase):
    def test_blank(self):
        """[12]"""
        self.same(blank_board(1, 1), ((0, (0,), ((0, -1, 0),)),))
        self.same(blank_board(2, 3), ((0, (0, 0), ((0, -1, 0),) * 3),) * 2)
        for houses in (0, 8) + NO_NUMBERS:
            self.raises(BadHouses(), blank_board, houses, 0)
        for many in (0, -1) + NO_NUMBERS:
            self.raises(BadNumber("many"), blank_board, 2, many)

    def test_heard(self):
        """[12], heard_board: the card with the greater clock, that of board if they are equal."""
        for pick, board, other in boards(12, 150):
            wanted = tuple(late if late[0] > own[0] else own for own, late in zip(board, other))
            self.same(heard_board(board, other), wanted)
        one, two = ((3, (3,), ((1, 0, 1),)),), ((3, (2,), ((2, 0, 1),)),)
        self.same([heard_board(one, two), heard_board(two, one)], [one, two])

    def test_clocks_and_stores(self):
        for pick, board, _ in boards(13, 60):
            self.same(clocks(board), tuple(card[0] for card in board))
            self.same(known_store(board), joined(*[card[2] for card in board]))
        same = ((1, (0, 0), ((2, 1, 5),)), (1, (0, 0), ((2, 1, 6),)))
        self.same([known_store(same), known_store(same[::-1])], [((2, 1, 5),), ((2, 1, 6),)])

    def test_new(self):
        """[12]: the new card."""
        for pick, board, other in boards(14, 150):
            me = pick.randrange(len(board))
            for extra in (None, other[0][2]):
                got = new_board(board, me, extra)
                stores = [card[2] for card in board] + ([] if extra is None else [extra])
                heard = [card[0] for card in board]
                heard[me] += 1
                card = (board[me][0] + 1, tuple(heard), joined(*stores))
                self.same(got, board[:me] + (card,) + board[me + 1:])


class Looks(LinksCase):
    def test_words(self):
        """[12], lookings.py"""
        pick = random.Random(15)
        seen = set()
        for lots in some_lots(16, 200, 4):
            board = some_board(pick, lots.houses, 2)
            me, first = pick.randrange(lots.houses), pick.randint(0, 6)
            echoed = [lot for lot in lots.asked if all(board[x][1][me] >= first for x in lot)]
            passed = [lot for lot in lots.heard if all(board[x][0] >= first for x in lot)]
            seen |= {("asked", min(len(echoed), 2)), ("heard", min(len(passed), 2))}
            self.same(echoed_lot(lots, board, me, first), echoed[0] if echoed else None)
            self.same(passed_lot(lots, board, first), passed[0] if passed else None)
            lot, put = pick.choice(lots.asked), some_store(pick, 2)
            self.same(number_told(board, lot, put), max([board[x][0] for x in lot] + [put[0][0], put[1][0]]))
            self.same(result_told(board, lot), joined(*[board[x][2] for x in lot]))
        self.assertEqual(len(seen), 6)

    def test_order_of_a_result(self):
        """result_told: the join in the order of lot."""
        board = ((1, (0, 0), ((2, 1, 5),)), (1, (0, 0), ((2, 1, 6),)))
        self.same([result_told(board, (0, 1)), result_told(board, (1, 0)), result_told(board, (1,))],
                  [((2, 1, 5),), ((2, 1, 6),), ((2, 1, 6),)])


if __name__ == "__main__":
    unittest.main()
