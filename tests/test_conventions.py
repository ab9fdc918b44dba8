"""Point [1] over the files of orders, breaks, wishes, moves and the desk: arguments stay, and are not held on to."""

import copy
import unittest

from silentlinks.agreed import Agreed
from silentlinks.apart import by_registers, joined_order
from silentlinks.breaker import break_sides
from silentlinks.claims import Claim
from silentlinks.desk import Desk, what_if
from silentlinks.getfirst import get_first, get_first_of
from silentlinks.judging import first_wrong, is_order
from silentlinks.lone import chain_houses, hanging_times
from silentlinks.lots import Lots
from silentlinks.mains import kept_or_broken
from silentlinks.memory import Memory
from silentlinks.moving import Moving
from silentlinks.papers import Mute
from silentlinks.putfirst import put_first, put_first_of
from silentlinks.replay import answer_in, replayed
from silentlinks.search import find_order
from silentlinks.showing import run_lines
from silentlinks.stretched import is_paper, value_ends, verdict
from silentlinks.swift import get_then_put, put_then_get
from silentlinks.telling import told_stretch
from silentlinks.nets import Net
from silentlinks.patterns import Pattern
from silentlinks.texts import book_from
from silentlinks.told import Told
from silentlinks.worlds import World
from breaking import QUICK, told_of
from support import LinksCase

CUT = book_from("houses 2\npattern silent 0>1 1>0")
RECORDS = [[0, ["put", 0, 3], 0, 1, 3], [1, ["put", 0, 7], 2, 3, 7], [1, ["get", 0], 4, 5, 7]]


def told(value):
    """A value that tells what was handed out, papers and lots within it, too."""
    if hasattr(value, "KIND"):
        return told_of(value)
    if isinstance(value, (list, tuple)):
        return (type(value).__name__, [told(part) for part in value])
    return (value.asked, value.heard) if isinstance(value, Lots) else value


class Conventions(LinksCase):
    def calls(self):
        quick = Told.read(2, QUICK)
        puts, gets = [["begin", 0, ("put", 0, 1)], ["tick", 0]], [["begin", 0, ("get", 0)], ["tick", 0]]
        puts, gets = [tuple(event) for event in puts], [tuple(event) for event in gets]
        desk = Desk(CUT, quick)
        return [
            (first_wrong, [RECORDS, [1, 0, 2]]), (is_order, [RECORDS, [0, 1, 2]]), (find_order, [RECORDS]),
            (value_ends, [RECORDS, 3]), (verdict, [RECORDS]), (is_paper, [RECORDS, ["across", 3, 7]]),
            (by_registers, [RECORDS]), (joined_order, [RECORDS, [[0, 1, 2]]]),
            (hanging_times, [puts, 0]), (chain_houses, [puts, 0, 1]),
            (put_first_of, [quick, CUT, puts, [0, 1], 5]), (get_first_of, [quick, CUT, gets, [0, 1], 5]),
            (put_first, [quick, CUT, [0, 0], [0, 1], 5]), (get_first, [quick, CUT, [0, 0], [0, 1], 5]),
            (put_then_get, [quick, CUT, [0, 0], [0, 1], 5]), (get_then_put, [quick, CUT, [0, 0], [0, 1], 5]),
            (break_sides, [quick, CUT, [[0, 0]], [[0, 1]]]),
            (replayed, [[(0, 0, ("get", 0))]]), (answer_in, [[(0, 0, ("get", 0))], (0, 0, ("get", 0))]),
            (told_stretch, [Lots.majority(2), 3, Net(2, Pattern()), 0, (0, 4)]),
            (run_lines, [quick, puts]), (what_if, [desk, puts]),
            (kept_or_broken, [Claim(CUT, [(0, 0)]), quick, puts + [None, ["tick", 0]]]),
        ]

    def test_arguments_stay(self):
        """No function changes its arguments; asked twice it answers the same, also behind changes to what it gave."""
        for call, arguments in self.calls():
            before = copy.deepcopy([value for value in arguments if isinstance(value, (list, tuple))])
            first = told(call(*arguments))
            self.assertEqual([value for value in arguments if isinstance(value, (list, tuple))], before)
            handed = call(*arguments)
            if isinstance(handed, list):
                handed.append(None)
            self.assertEqual(repr(told(call(*arguments))), repr(first))

    def test_not_held_on_to(self):
        """What was handed in may be changed afterwards."""
        rows, events = [Lots(1, [[0]], [[0]])], [("begin", 0, ("get", 0))]
        moving, mute = Moving(rows), Mute(CUT, events, 0, 0, 0)
        rows.clear()
        events.clear()
        self.assertEqual(len(moving.rows), 1)
        self.same(mute.schedule, (("begin", 0, ("get", 0)),))
        owners = [0]
        memory = Memory(Lots(1, [[0]], [[0]]), owners=owners)
        owners[0] = None
        self.same(memory.owners, (0,))

    def test_worlds_asked(self):
        """What is asked of a world does not change it."""
        world = World(Agreed(Lots.majority(1), base=1))
        world.do(("begin", 0, ("put", 0, 4)))
        world.do(("tick", 0))
        state = world.state(0)
        world.machine.tick(state, 0)
        world.machine.hear(state, 0, 0, state)
        self.same(world.state(0), state)


if __name__ == "__main__":
    unittest.main()
