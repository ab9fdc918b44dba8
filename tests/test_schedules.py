"""Schedules: points [122] and [130], and silentlinks/schedules.py."""

import random
import unittest

from silentlinks.errors import BadNumber, BadText, NotFree
from silentlinks.schedules import event_text, exchanged, house_of_event, is_free, schedule_from, schedule_text
from silentlinks.worlds import run
from runs import Log, end_state, house_by, made_by, some_worlds
from support import NO_NUMBERS, LinksCase

N30 = 10 ** 30 - 1
TOLD = [
    (("begin", 0, ("get", 3)), "begin 0 get 3"), (("begin", 0, ("put", 0, 5)), "begin 0 put 0 5"),
    (("begin", 1, ("put", 2, -7)), "begin 1 put 2 -7"), (("begin", 1, ("look",)), "begin 1 look"),
    (("begin", 12, ("tour", -10)), "begin 12 tour -10"), (("begin", 0, ("propose", 0)), "begin 0 propose 0"),
    (("begin", 0, ("add_if", 1, -5, 6)), "begin 0 add_if 1 -5 6"), (("begin", 0, ("move", 2)), "begin 0 move 2"),
    (("tick", 0), "tick 0"), (("hand", 0, 12, 1), "hand 0 12 to 1"), (("fall", 6), "fall 6"), (("wake", 7), "wake 7"),
    (("hush", 0, 1), "hush 0 1"), (("tick", N30), f"tick {N30}"), (("hand", N30, N30, 0), f"hand {N30} {N30} to 0"),
    (("begin", 0, ("put", N30, -N30)), f"begin 0 put {N30} -{N30}"),
    (("begin", N30, ("add_if", N30, N30, -N30)), f"begin {N30} add_if {N30} {N30} -{N30}"),
]


def some_schedule(pick, many):
    """Events of any houses, whether a world does them or not."""
    rows = []
    for _ in range(many):
        a, b = pick.sample(range(12), 2)
        v, w = pick.choice((0, 3, -4, N30, -N30)), pick.randint(-9, 9)
        deed = pick.choice((("get", a), ("put", a, v), ("look",), ("tour", v), ("propose", w), ("add_if", b, v, w), ("move", a)))
        rows.append(pick.choice((
            ("begin", a, deed), ("tick", a), ("hand", a, pick.randint(1, 99), b), ("fall", a), ("wake", a), ("hush", a, b))))
    return tuple(rows)


class Texts(LinksCase):
    def test_each_form(self):
        """[130]"""
        for event, text in TOLD:
            self.same(event_text(event), text)
            self.same(schedule_from(text), (event,))
        self.same(schedule_text([event for event, _ in TOLD]), "\n".join(text for _, text in TOLD))
        self.same(schedule_from("\n".join(text for _, text in TOLD)), tuple(event for event, _ in TOLD))

    def test_back(self):
        """[130]"""
        pick = random.Random(130)
        for _ in range(80):
            s = some_schedule(pick, pick.randint(0, 12))
            self.same(schedule_from(schedule_text(s)), s)
            wide = []
            for line in schedule_text(s).splitlines():
                wide += pick.sample(["", "  ", "# tick 0", "   #"], pick.randint(0, 2))
                line = "".join(" " * pick.randint(1, 3) if sign == " " else sign for sign in line)
                wide.append(" " * pick.randint(0, 2) + line + " " * pick.randint(0, 2))
            self.same(schedule_from("\n".join(wide + [""] * pick.randint(0, 2))), s)

    def test_empty(self):
        """[130]"""
        self.same(schedule_text(()), "")
        for text in ("", "\n", " ", "# tick 0", "\n\n  # no\n"):
            self.same(schedule_from(text), ())

    def test_wrong_lines(self):
        """[130]"""
        rows = [
            "tock 0", "Tick 0", "tick", "tick 0 1", "tick x", "tick -1", "tick 01", "tick +1", "tick 1.0", "tick\t0", "\ttick 0",
            "tick 0\t", "tick 0\r", "tick 0 # no", f"tick {N30 + 1}", "tick True", "fall", "fall 0 1", "wake", "wake 0 0", "fall -0",
            "hush 0", "hush 0 0", "hush 0 1 2", "hush 0>1", "hush 0 -1", "hand 0 1 1", "hand 0 1 to", "hand 0 1 to 0", "hand 0 0 to 1",
            "hand 0 -1 to 1", "hand 0 1 To 1", "hand 0 1 2 1", "hand 0 1 to 1 1", "hand 0 01 to 1", "hand 0 to 1", "hand", "hush",
            "tick 0 1 to 1", "tock 0 1 to 1", "fall 0 1 to 1",
            "begin", "begin 0", "begin 0 0", "begin get 0", "begin 0 get", "begin 0 get 0 0", "begin 0 get -1", "begin 0 get x",
            "begin 0 put 0", "begin 0 put 0 5 5", "begin 0 put -1 5", "begin 0 put 0 -0", "begin 0 put 0 --5", "begin 0 put 0 -",
            "begin 0 put 0 - 5", "begin 0 put 0 -05", "begin 0 put 0 +5", f"begin 0 put 0 -{N30 + 1}", f"begin 0 put {N30 + 1} 0",
            "begin 0 look 0", "begin 0 look 1", "begin 0 tour", "begin 0 tour 1 2", "begin 0 propose", "begin 0 add_if 0 1",
            "begin 0 add_if 0 1 2 3", "begin 0 add_if -1 1 2", "begin 0 add 0 1 2", "begin 0 move", "begin 0 move -1", "begin 0 move 1 2",
            "begin -1 get 0", "begin x get 0", "begin 0 tick", "begin 0 Get 0", "get 0", "tick 0; tick 1", "tick 0,", "hand 0 1 to1",
        ]
        for text in rows:
            self.raises(BadText(1), schedule_from, text)
            self.raises(BadText(4), schedule_from, "tick 0\n\n # no\n" + text + "\nalso wrong")

    def test_only_line_feeds_separate(self):
        for sign in ("\r", "\x0b", "\x0c", "\x1c", "\u2028", "\x85"):
            self.raises(BadText(1), schedule_from, f"tick 0{sign}tick 1")

    def test_house_of_event(self):
        """[8]"""
        for event, wanted in ((("begin", 3, ("look",)), 3), (("tick", 2), 2), (("hand", 0, 5, 4), 4), (("fall", 1), 1),
                              (("wake", 6), 6), (("hush", 5, 2), 5)):
            self.same(house_of_event(event), wanted)


def free_by(s, time):
    first, other = s[time], s[time + 1]
    if house_by(first) == house_by(other):
        return False
    if other[0] == "hand" and first == ("tick", other[1]):
        return made_by(s, other[1])[other[2] - 1] != time
    return True


class Exchange(LinksCase):
    def test_exchange(self):
        """[122]"""
        seen = set()
        for make in (Log, ):
            for world in some_worlds(122, 60, 40, make):
                s = tuple(world)
                for time in range(len(s) - 1):
                    wanted = free_by(s, time)
                    seen.add(wanted)
                    self.assertIs(is_free(s, time), wanted)
                    if not wanted:
                        self.raises(NotFree(time), exchanged, list(s), time)
                        continue
                    other = exchanged(list(s), time)
                    self.same(other, s[:time] + (s[time + 1], s[time]) + s[time + 2:])
                    self.same(end_state(run(world.machine, other)), end_state(world))
        self.assertEqual(seen, {True, False})

    def test_old_sheet_is_free(self):
        s = (("tick", 0), ("tick", 0), ("hand", 0, 1, 1), ("hand", 0, 2, 1))
        self.same([is_free(s, 0), is_free(s, 1), is_free(s, 2)], [False, True, False])
        self.same(exchanged(s, 1), (s[0], s[2], s[1], s[3]))

    def test_neither_is_the_tick(self):
        """is_free: neither is the tick that makes the sheet which the other one hands."""
        s = (("hand", 0, 1, 1), ("tick", 0), ("hand", 0, 2, 1))
        self.same([is_free(s, 0), is_free(s, 1)], [False, True])

    def test_wrong_time(self):
        s = [("tick", 0), ("tick", 1), ("tick", 0)]
        for call in (is_free, exchanged):
            for time in (-1, 2, 3, 10 ** 20) + NO_NUMBERS:
                self.raises(BadNumber("time"), call, s, time)
            self.raises(BadNumber("time"), call, (), 0)
            self.raises(BadNumber("time"), call, s[:1], 0)
        self.same(s, [("tick", 0), ("tick", 1), ("tick", 0)])


if __name__ == "__main__":
    unittest.main()
