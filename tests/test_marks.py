"""Point [260]: marked stores."""

import random
import unittest

from silentlinks.marks import blank_marked, joined_marked, with_closed, with_opened, with_stamp
from moves import best
from support import LinksCase


def some_store(pick, many):
    stamps = []
    for _ in range(many):
        stamp = pick.choice(((0, 0, -1), (0, 3, 1), (0, 3, 2), (1, 2, 0), (1, 0, 1)))
        stamps.append(stamp + (sum(stamp),))
    return (tuple(stamps), pick.randint(0, 3), pick.randint(-1, 2))


class Marks(LinksCase):
    def test_blank(self):
        self.same(blank_marked(1), (((0, 0, -1, 0),), 0, -1))
        self.same(blank_marked(3), (((0, 0, -1, 0),) * 3, 0, -1))

    def test_joins(self):
        pick = random.Random(1)
        for _ in range(200):
            stores = [some_store(pick, 3) for _ in range(pick.randint(1, 4))]
            self.same(joined_marked(stores), best(stores))

    def test_marks(self):
        store = (((0, 3, 1, 7), (1, 2, 0, 8)), 1, 0)
        self.same(with_stamp(store, 0, (0, 3, 2, 9)), (((0, 3, 2, 9), (1, 2, 0, 8)), 1, 0))
        self.same(with_stamp(store, 1, (0, 9, 2, 9)), store)
        self.same([with_opened(store, 3)[1], with_opened(store, 0)], [3, store])
        self.same([with_closed(store, 1)[2], with_closed(store, -1)], [1, store])


if __name__ == "__main__":
    unittest.main()
