"""What the tests of rows of wishes share: a plain reading of points [240] to [243], and random runs."""

import random

from silentlinks.agreed import Agreed
from silentlinks.machines import Machine
from silentlinks.worlds import World
from runs import play
from support import crossing_lots, some_lots


def start_by(base, view):
    return sum(base + v for v in range(view))


def view_by(base, clock):
    view = 0
    while start_by(base, view + 1) <= clock:
        view += 1
    return view


def answers_by(row):
    """[243], word by word."""
    held, answers = {}, []
    for k, (house, turn, deed) in enumerate(row):
        if deed[0] == "put":
            held[deed[1]] = deed[2]
            answers.append(deed[2])
        elif deed[0] == "get":
            answers.append(held.get(deed[1], 0))
        elif deed[0] == "add_if":
            hit = held.get(deed[1], 0) == deed[2]
            if hit:
                held[deed[1]] = deed[3]
            answers.append(1 if hit else 0)
        else:
            answers.append([other[1] for _, _, other in row if other[0] == "propose"][0])
    return tuple(answers)


class PlainAgreed(Machine):
    """The machine Agreed with the tick read from [242] word by word."""

    def __init__(self, lots, base):
        self.houses, self.lots, self.base = lots.houses, lots, base
        self.other = Agreed(lots, base=base)

    def fresh(self, me):
        return (tuple((0, (-1, ()), (-1, ()), None, ()) for _ in range(self.houses)), None, -1, ())

    def begin(self, state, me, deed):
        return (state[0], (me, state[2] + 1, deed), state[2] + 1, state[3])

    def hear(self, state, me, origin, sheet):
        rows = [other if other[0] > own[0] else own for own, other in zip(state[0], sheet[0])]
        return (tuple(rows),) + state[1:]

    def admits(self, me, deed):
        return self.other.admits(me, deed)

    def tick(self, state, me):
        board, wish, turn, agreed = state
        c = board[me][0] + 1
        v = view_by(self.base, c)
        views = {}
        for lot in self.lots.asked:
            told = {board[x][1] for x in lot}
            if len({view for view, _ in told}) == 1 and min(told)[0] >= 0:
                views.setdefault(min(told)[0], board[lot[0]][1][1])
        if views and len(views[max(views)]) > len(agreed):
            agreed = views[max(views)]
        longest = max(len(card[4]) for card in board)
        if longest > len(agreed):
            agreed = [card[4] for card in board if len(card[4]) == longest][0]
        accepted, proposed = board[me][1], board[me][2]
        leader = v % self.houses
        if me == leader and proposed[0] != v:
            for lot in self.lots.heard:
                ready = True
                for x in lot:
                    clock, (seen, _) = board[x][:2]
                    if x != me and not (clock >= 1 and view_by(self.base, clock) >= v and seen < v):
                        ready = False
                    if x == me and not seen < v:
                        ready = False
                if ready:
                    row = max((board[x][1] for x in lot), key=lambda told: told[0])[1]
                    wishes = [board[x][3] for x in range(self.houses) if x != me] + [wish]
                    new = [w for w in wishes if w is not None and w not in row]
                    row = row + tuple(sorted(new, key=lambda w: w[:2]))
                    if row != ():
                        proposed = (v, row)
                    break
        told = proposed if me == leader else board[leader][2]
        if told[0] == v:
            accepted = told
        card = (c, accepted, proposed, wish, agreed)
        later = board[:me] + (card,) + board[me + 1:]
        if wish is not None and wish in agreed:
            return (later, None, turn, agreed), answers_by(agreed)[agreed.index(wish)]
        return (later, wish, turn, agreed), None


PROPOSALS = [("propose", v) for v in range(4)]
KEPT = [("get", 0), ("get", 1)] + [("put", x, v) for x in (0, 1) for v in (1, 2, 3)]
WISHES = PROPOSALS + KEPT + [("add_if", 0, 0, 5), ("add_if", 0, 5, 6), ("add_if", 1, 1, 9), ("put", 7, 3), ("get", 7)]


def some_agreed(seed, many, most_houses=4, crossing=True):
    pick = random.Random(seed)
    for lots in (crossing_lots if crossing else some_lots)(seed, many, most_houses):
        yield pick, Agreed(lots, base=pick.randint(1, 6))


def agreed_worlds(seed, many, length=900, deeds=WISHES, crossing=True, most_houses=4):
    """Worlds of Agreed machines behind random events, with falls, wakes and hushes, late and doubled sheets."""
    from touring import some_way
    for pick, machine in some_agreed(seed, many, most_houses, crossing):
        yield play(pick, World(machine), pick.randint(20, length), deeds, some_way(pick, machine.houses))


def cards_of(world):
    """All cards that were ever made, as (house, card), those of one house in order."""
    for house in range(world.houses):
        for number in range(world.ticks(house)):
            yield house, world.sheet(house, number + 1)[0][house]


def even_stretch(pick, world, net, houses, others=True):
    """Does an even stretch that serves the houses: each ticks once; sheets in a loose order, others' events between."""
    left = [("tick", h) for h in houses]
    links = [link for link in net.links if link[0] in houses and link[1] in houses]
    start = {h: world.ticks(h) for h in range(world.houses)}
    while left or links:
        ready = [link for link in links if world.ticks(link[0]) > start[link[0]]]
        if ready and (not left or pick.random() < 0.5):
            link = pick.choice(ready)
            world.do(("hand", link[0], world.ticks(link[0]), link[1]))
            links.remove(link)
        elif left:
            event = pick.choice(left)
            left.remove(event)
            world.do(event)
        if others and pick.random() < 0.3:
            other = pick.randrange(world.houses)
            event = ("tick", other) if other not in houses else None
            if event is None or pick.random() < 0.6:
                event = ("hand", other, pick.randint(1, world.ticks(other) or 1), pick.randrange(world.houses))
            if world.can(event):
                world.do(event)
