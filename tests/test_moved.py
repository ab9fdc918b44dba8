"""Points [260], [263] and [266]: the order of a memory that moves."""

import random
import unittest

from silentlinks.errors import NoDeed
from silentlinks.judging import is_order
from silentlinks.lots import Lots
from silentlinks.moved import least_pair, memory_history, moved_tours, order_by_pairs, place_pairs, stamp_moved
from silentlinks.moving import Moving
from silentlinks.schedules import schedule_from
from silentlinks.worlds import World, run
from moves import moving_worlds
from support import NO_NUMBERS, LinksCase


def tours_by(world, at):
    record = world.history()[at]
    turn = sum(other[0] == record[0] for other in world.history()[:at])
    state = world.state(record[0])
    return tuple(tour for tour in state[4] + ((state[3],) if state[3] else ()) if tour[0] == turn)


def stamp_by(world, at):
    house, deed, begun, ended, answer = world.history()[at]
    tours = tours_by(world, at)
    if deed[0] == "get" and ended is not None:
        return tours[-1][3][0][deed[1]][:3]
    if deed[0] == "put":
        for k, tour in enumerate(tours):
            if tour[7] == "valid":
                return (tour[1], tour[4] + 1, house) if len(tours) > k + 1 else None
    return None


def least_by(world, place, stamp):
    if stamp == (0, 0, -1):
        return (0, 0)
    rows = []
    for house in range(world.houses):
        for tour in world.state(house)[4]:
            if tour[7] == "valid" and tour[3][0][place][:3] >= stamp:
                rows.append((tour[1], tour[4]))
    return min(rows, default=None)


def pair_by(world, at):
    house, deed, begun, ended, answer = world.history()[at]
    stamp = stamp_by(world, at)
    if deed[0] == "move" or stamp is None:
        return None
    least = least_by(world, deed[1], stamp)
    if deed[0] == "put":
        return least
    first = [tour for tour in tours_by(world, at) if tour[7] == "valid"][0]
    return max((first[1], first[4]), least)


def order_by(world):
    """The order of the interface, word by word."""
    history = world.history()
    kept = [at for at, record in enumerate(history) if record[1][0] != "move"]
    rows = []
    for position, at in enumerate(kept):
        pair = pair_by(world, at)
        if pair is None:
            continue
        deed, stamp = history[at][1], stamp_by(world, at)
        if deed[0] == "put" or least_by(world, deed[1], stamp) == pair:
            rows.append((pair, 0, (deed[1], stamp, deed[0] != "put"), position))
        else:
            rows.append((pair, 1, (), position))
    return tuple(row[-1] for row in sorted(rows))


class Moved(LinksCase):
    def test_told(self):
        """Tours, stamps, pairs and the row by pairs, read from the words."""
        stamps = {}
        for crossing in (True, False):
            for world in moving_worlds(51 + crossing, 60, 700, crossing):
                history = world.history()
                for at, record in enumerate(history):
                    self.same(moved_tours(world, at), tours_by(world, at))
                    stamp = stamp_by(world, at)
                    self.same(stamp_moved(world, at), stamp)
                    if record[1][0] != "move" and stamp is not None:
                        self.same(least_pair(world, record[1][1], stamp), least_by(world, record[1][1], stamp))
                    key = (record[1][0], record[3] is None, stamp is None)
                    stamps[key] = stamps.get(key, 0) + 1
                self.same(place_pairs(world), tuple(pair_by(world, at) for at in range(len(history))))
                self.same(memory_history(world), tuple(record for record in history if record[1][0] != "move"))
                self.same(order_by_pairs(world), order_by(world))
        self.assertLessEqual({("get", False, False), ("get", True, True), ("put", False, False), ("put", True, True),
                              ("put", True, False), ("move", False, True), ("move", True, True)}, set(stamps))

    def test_one_memory(self):
        """[266]: the row by pairs is an order of the history, with several houses that move at once, and falls."""
        several, many = 0, 0
        for world in moving_worlds(53, 250, 1200):
            history = memory_history(world)
            self.assertTrue(is_order(history, order_by_pairs(world)))
            moves = [record for record in world.history() if record[1][0] == "move"]
            several += any(a[2] < b[2] and (a[3] is None or b[2] < a[3]) for a in moves for b in moves if a[0] != b[0])
            many += sum(record[3] is not None for record in history)
        self.assertGreater(several, 20)
        self.assertGreater(many, 1000)

    def test_lots_apart(self):
        """[266]: each Lots crosses, unlike ones have no house in common."""
        pick = random.Random(54)
        from moves import move_deeds
        from runs import play
        for _ in range(80):
            rows = [Lots(4, [[0, 1]], [[0], [1]]), Lots(4, [[2], [3]], [[2, 3]]), Lots(4, [[0]], [[0]])][:pick.randint(2, 3)]
            machine = Moving(rows, registers=2)
            world = play(pick, World(machine), 1200, move_deeds(pick, machine))
            self.assertTrue(is_order(memory_history(world), order_by_pairs(world)))

    def test_small(self):
        """[263]: stamps that are missing, and the pair of the blank stamp."""
        machine = Moving([Lots(1, [[0]], [[0]])] * 2)
        world = run(machine, schedule_from("begin 0 get 0\ntick 0\nbegin 0 put 0 4\ntick 0"))
        self.same([stamp_moved(world, 0), stamp_moved(world, 1)], [(0, 0, -1), None])
        self.same([place_pairs(world), order_by_pairs(world)], [((0, 1), None), (0,)])
        world.do(("tick", 0))
        self.same([stamp_moved(world, 1), place_pairs(world)], [(0, 3, 0), ((0, 1), (0, 3))])
        self.same([least_pair(world, 0, (0, 0, -1)), least_pair(world, 0, (0, 3, 0)), least_pair(world, 0, (0, 4, 0))],
                  [(0, 0), (0, 3), None])
        empty = World(machine)
        self.same([place_pairs(empty), order_by_pairs(empty), memory_history(empty)], [(), (), ()])

    def test_no_deed(self):
        """NoDeed(at) for what is no position of the history, in which moves count."""
        world = run(Moving([Lots(1, [[0]], [[0]])] * 2), schedule_from("begin 0 move 1\ntick 0\ntick 0\nbegin 0 get 0"))
        self.assertEqual(len(world.history()), 2)
        self.same([moved_tours(world, 1), stamp_moved(world, 0), len(moved_tours(world, 0))], [(), None, 2])
        for value in (2, -1) + NO_NUMBERS:
            self.raises(NoDeed(value), moved_tours, world, value)
            self.raises(NoDeed(value), stamp_moved, world, value)


if __name__ == "__main__":
    unittest.main()
