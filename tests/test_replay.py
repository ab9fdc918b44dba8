"""Points [243] and [247]: what rows of wishes answer."""

import random
import unittest

from silentlinks.agreed import Agreed
from silentlinks.lots import Lots
from silentlinks.replay import agreed_history, agreed_rows, answer_in, replayed
from silentlinks.worlds import World
from support import LinksCase
from wishes import WISHES, agreed_worlds, answers_by


def some_row(pick):
    turns = [0] * 4
    row = []
    for _ in range(pick.randint(0, 12)):
        house = pick.randrange(4)
        row.append((house, turns[house], pick.choice(WISHES)))
        turns[house] += 1
    return tuple(row)


class Replay(LinksCase):
    def test_answers(self):
        pick = random.Random(1)
        for _ in range(400):
            row = some_row(pick)
            self.same(replayed(row), answers_by(row))
            for k, wish in enumerate(row):
                self.same(answer_in(row, wish), answers_by(row)[k])

    def test_each_deed(self):
        self.same(replayed(()), ())
        self.same(replayed([(0, 0, ("get", 7))]), (0,))
        row = ((0, 0, ("add_if", 2, 1, 5)), (0, 1, ("add_if", 2, 0, 5)), (1, 0, ("add_if", 2, 0, 6)), (1, 1, ("get", 2)))
        self.same(replayed(row), (0, 1, 0, 5))
        row = ((0, 0, ("put", 3, -4)), (0, 1, ("add_if", 3, -4, 0)), (0, 2, ("add_if", 3, 0, 0)), (0, 3, ("get", 3)))
        self.same(replayed(row), (-4, 1, 1, 0))
        row = ((1, 0, ("get", 0)), (0, 0, ("propose", 6)), (1, 1, ("propose", 7)), (0, 1, ("put", 0, 1)))
        self.same(replayed(row), (0, 6, 6, 1))

    def test_of_worlds(self):
        """The agreed rows of a world, and its gets and puts."""
        for world in agreed_worlds(2, 12, 500):
            self.same(agreed_rows(world), tuple(world.state(h)[3] for h in range(world.houses)))
            wanted = tuple(record for record in world.history() if record[1][0] in ("get", "put"))
            self.same(agreed_history(world), wanted)
        world = World(Agreed(Lots(3, [[0]], [[0]])))
        self.same([agreed_rows(world), agreed_history(world)], [((), (), ()), ()])


if __name__ == "__main__":
    unittest.main()
