"""Point [240]: views and their leaders."""

import random
import unittest

from silentlinks.errors import BadNumber
from silentlinks.viewing import leader_of, view_at, view_start
from support import NO_NUMBERS, LinksCase
from wishes import start_by, view_by


class Viewing(LinksCase):
    def test_views(self):
        for base in (1, 2, 3, 6, 11):
            for view in range(40):
                self.same(view_start(base, view), start_by(base, view))
                self.same(view_start(base, view + 1) - view_start(base, view), base + view)
            for clock in range(200):
                self.same(view_at(base, clock), view_by(base, clock))

    def test_first_and_last_clock(self):
        """The first clock of a view and its last one, also of numbers of 30 digits."""
        pick = random.Random(1)
        for digits in (1, 2, 5, 9, 14, 20, 29):
            for _ in range(50):
                base, view = pick.randint(1, 10 ** digits), pick.randint(1, 10 ** min(digits, 14))
                start = view_start(base, view)
                self.same([view_at(base, start), view_at(base, start - 1)], [view, view - 1])
                clock = pick.randint(0, 10 ** digits)
                told = view_at(base, clock)
                self.assertTrue(view_start(base, told) <= clock < view_start(base, told + 1))
        self.same([view_at(1, 0), view_at(1, 1), view_at(1, 2), view_at(1, 3), view_start(1, 0)], [0, 1, 1, 2, 0])

    def test_leaders(self):
        for houses in range(1, 8):
            self.same([leader_of(houses, view) for view in range(15)], [view % houses for view in range(15)])

    def test_errors(self):
        """The base, then the view or the clock."""
        for value in (0, -1) + NO_NUMBERS:
            self.raises(BadNumber("base"), view_start, value, None)
            self.raises(BadNumber("base"), view_at, value, None)
        for value in (-1,) + NO_NUMBERS:
            self.raises(BadNumber("view"), view_start, 1, value)
            self.raises(BadNumber("clock"), view_at, 1, value)


if __name__ == "__main__":
    unittest.main()
