"""Histories: point [200], and silentlinks/histories.py."""

import random
import unittest

from silentlinks.errors import BadNumber, BadRecord
from silentlinks.histories import check_history, ended_before, registers_in, told_history
from silentlinks.lots import Lots
from silentlinks.memory import Memory
from silentlinks.worlds import World
from runs import play
from support import NO_NUMBERS, LinksCase
from touring import deeds_for, worlds

GOOD = [
    (0, ("put", 0, 5), 0, 3, 5), (1, ("get", 2), 1, 2, 0), (9, ("look", 2), 4, 60, (1, -2)), (0, ("put", 3, -1), 7, None, None),
    (0, ("get", 0), 10 ** 29, None, None), (2, ("look", 1), 8, None, None), (0, ("put", 0, 5), 20, 21, "done"),
]


class Checks(LinksCase):
    def test_taken(self):
        """[200]: lists or tuples, in any order; handed back as tuples."""
        self.same(check_history(GOOD), tuple(GOOD))
        self.same(check_history(tuple(GOOD[::-1])), tuple(GOOD[::-1]))
        rows = [[house, list(deed), begun, ended, list(answer) if deed[0] == "look" and answer else answer]
                for house, deed, begun, ended, answer in GOOD]
        told = repr(rows)
        self.same(check_history(rows), tuple(GOOD))
        self.same(repr(rows), told)
        self.same([check_history(()), check_history([])], [(), ()])

    def test_answer_of_a_put(self):
        """check_history: a put's answer as it is, anything but None."""
        for answer in (0, True, False, 1.0, "x", (1,), (), [3], {}):
            self.same(check_history([(0, ("put", 0, 5), 0, 1, answer)]), ((0, ("put", 0, 5), 0, 1, answer),))

    def test_no_row(self):
        for records in (None, 5, "records", {}, {0: 1}, set(), iter(())):
            self.raises(BadRecord(-1), check_history, records)
            self.raises(BadRecord(-1), registers_in, records)

    def test_wrong_records(self):
        """[200]"""
        put, get, look = ("put", 0, 5), ("get", 0), ("look", 2)
        wrong = [
            None, 5, "abcde", (), (0, put, 50, 51), (0, put, 50, 51, 5, 5), {0: 1}, (-1, put, 50, 51, 5), (0, put, -1, 51, 5),
            (0, put, 50, 50, 5), (0, put, 50, 49, 5), (0, put, 50, -1, 5), (0, put, 50, 51, None), (0, put, 50, None, 5),
            (0, get, 50, None, 0), (0, get, 50, 51, None), (0, look, 50, None, (0, 0)), (0, look, 50, 51, None),
            (0, get, 50, 51, (0,)), (0, look, 50, 51, 0), (0, look, 50, 51, (0,)), (0, look, 50, 51, (0, 0, 0)), (0, look, 50, 51, ()),
            (0, look, 50, 51, "00"), (0, ("look", 0), 50, 51, ()), (0, ("look",), 50, 51, ()), (0, ("look", -1), 50, 51, ()),
            (0, (), 50, 51, 5), (0, "get", 50, 51, 5), (0, None, 50, 51, 5), (0, ("get",), 50, 51, 5), (0, ("get", -1), 50, 51, 5),
            (0, ("get", 0, 0), 50, 51, 5), (0, ("put", 0), 50, 51, 5), (0, ("put", -1, 5), 50, 51, 5), (0, ("put", 0, 5, 5), 50, 51, 5),
            (0, ("tour", 5), 50, 51, 5), (0, ("propose", 5), 50, 51, 5), (0, ("move", 1), 50, 51, 5), (0, (["get"], 0), 50, 51, 5),
            (0, (None, 0), 50, 51, 5), (0, ("Get", 0), 50, 51, 5), (0, ("look", 1, 1), 50, 51, (0,)),
        ]
        for value in NO_NUMBERS:
            wrong += [(value, put, 50, 51, 5), (0, put, value, 51, 5), (0, ("get", value), 50, 51, 5), (0, ("put", value, 5), 50, 51, 5),
                      (0, ("put", 0, value), 50, 51, 5), (0, ("look", value), 50, 51, (0,)), (0, look, 50, 51, (0, value))]
            if value is not None:
                wrong += [(0, get, 50, 51, value), (0, put, 50, value, 5)]
        for record in wrong:
            self.raises(BadRecord(0), check_history, [record])
            self.raises(BadRecord(2), check_history, (GOOD[0], GOOD[1], record, None))
            self.raises(BadRecord(1), registers_in, [GOOD[0], record])

    def test_times(self):
        """[200]: no number occurs twice among all begun and ended."""
        get = ("get", 0)
        rows = [(0, ("put", 0, 13), 4, 8, 13), (1, get, 5, None, None), (2, get, 11, 20, 0)]
        used = (4, 5, 8, 11, 20)
        for begun in range(12):
            for ended in [None] + list(range(begun + 1, 22)):
                record = (7, get, begun, ended, None if ended is None else 30)
                if begun in used or ended in used:
                    self.raises(BadRecord(3), check_history, rows + [record, None])
                else:
                    self.same(check_history(rows + [record])[3], record)
        self.same(len(check_history([(0, get, 0, None, None), (0, get, 1, None, None)])), 2)

    def test_what_is_handed_out(self):
        """[1]"""
        deed, answer = ["look", 2], [3, 4]
        rows = [[0, deed, 0, 1, answer]]
        got = check_history(rows)
        deed[1] = 9
        answer.append(5)
        rows.clear()
        self.same(got, ((0, ("look", 2), 0, 1, (3, 4)),))


class Others(LinksCase):
    def test_told_history(self):
        pick = random.Random(200)
        for world in worlds(200, 20, 300):
            many = world.machine.registers
            told = told_history(world.history(), many)
            wanted = [(h, ("look", many) if deed == ("look",) else deed, b, e, answer) for h, deed, b, e, answer in world.history()]
            self.same(told, tuple(wanted))
            self.same(check_history(told), told)
        world = play(pick, World(Memory(Lots.majority(2))), 10, deeds_for(pick, 1))
        for many in (0, -1) + NO_NUMBERS:
            self.raises(BadNumber("many"), told_history, world.history(), many)

    def test_other_deeds_are_left_out(self):
        rows = ((0, ("tour", 5), 0, 1, 5), (0, ("get", 1), 2, None, None), (1, ("propose", 1), 3, 4, 1), (2, ("move", 1), 5, 6, 1),
                (1, ("look",), 7, 8, (0, 0, 0)), (2, ("add_if", 0, 1, 2), 9, 10, 1), (2, ("put", 0, 4), 11, 12, 4))
        self.same(told_history(rows, 3), (rows[1], (1, ("look", 3), 7, 8, (0, 0, 0)), rows[6]))
        self.same(told_history((), 1), ())

    def test_ended_before(self):
        one, two, late = (0, ("get", 0), 0, 5, 0), (1, ("get", 0), 3, None, None), (1, ("get", 0), 6, 7, 0)
        self.same([ended_before(one, two), ended_before(one, late), ended_before(two, late), ended_before(late, one),
                   ended_before(one, one)], [False, True, False, False, False])
        for begun, wanted in ((4, False), (5, False), (6, True)):
            for answer in (0, 9):
                first = (0, ("get", 0), 0, 5, answer)
                for ended in (None, 7):
                    self.same(ended_before(list(first), (1, ("get", 0), begun, ended, None if ended is None else 0)), wanted)

    def test_registers_in(self):
        self.same([registers_in(GOOD), registers_in(()), registers_in([GOOD[1]]), registers_in(GOOD[3:4]),
                   registers_in([(0, ["look", 4], 0, None, None), (0, ("get", 9), 1, None, None)])],
                  [(0, 1, 2, 3), (), (2,), (3,), (0, 1, 2, 3, 9)])


if __name__ == "__main__":
    unittest.main()
