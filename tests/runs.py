"""What the tests of worlds share: random schedules, and plain readings of points [8] to [11]."""

import random

from silentlinks.machines import Gossip, Machine
from silentlinks.nets import Net
from silentlinks.worlds import World
from support import Reach, some_pattern

TOURS = [("tour", v) for v in (0, 5, -3)]


class Log(Machine):
    """A machine that forgets nothing: its state tells all that happened at a house, sheets included."""

    def fresh(self, me):
        return ("fresh", me)

    def begin(self, state, me, deed):
        return (state, "begin", me, deed)

    def hear(self, state, me, origin, sheet):
        return (state, "hear", me, origin, sheet)

    def tick(self, state, me):
        later = (state, "tick", me)
        # Some ticks answer, also where there is no deed; the answer tells what the house had seen.
        return (later, size(later)) if size(later) % 3 == 0 else (later, None)

    def admits(self, me, deed):
        return deed[:1] in (("get",), ("put",), ("tour",), ("look",))


def size(state):
    return 1 + sum(size(part) for part in state) if isinstance(state, tuple) else 1


def some_event(pick, world, deeds, pattern=None):
    """A random event, more often one that the world does than not; falls and hushes only within a pattern if given."""
    h, n = pick.randrange(world.houses), world.houses
    word = pick.choice(("tick", "tick", "tick", "hand", "hand", "hand", "begin", "fall", "wake", "hush"))
    other = pick.randrange(n)
    if word == "begin":
        return ("begin", h, pick.choice(deeds))
    if word == "hand":
        made = world.ticks(h)
        return ("hand", h, pick.choice((made, pick.randint(1, made + 1))), other)
    if word == "hush":
        links = [(h, other)] if pattern is None else list(pattern.silent)
        return ("hush",) + pick.choice(links) if links else ("tick", h)
    if word in ("fall", "wake") and pattern is not None:
        return (word, pick.choice(pattern.fallen)) if pattern.fallen else ("tick", h)
    if word in ("fall", "hush") and pick.random() < 0.6:
        return ("tick", h)
    return (word, h)


def play(pick, world, many, deeds=TOURS, pattern=None):
    """Tries so many random events in the world."""
    for _ in range(many):
        event = some_event(pick, world, deeds, pattern)
        if world.can(event):
            world.do(event)
    return world


def some_worlds(seed, many, length=60, make=Gossip, most_houses=4, deeds=TOURS):
    pick = random.Random(seed)
    for _ in range(many):
        yield play(pick, World(make(pick.randint(1, most_houses))), pick.randint(0, length), deeds)


def telling(world):
    """All that a world tells."""
    houses = range(world.houses)
    return (
        list(world), world.clock, world.history(), [world.state(h) for h in houses], [world.awake(h) for h in houses],
        [world.deed(h) for h in houses], [[world.sheet(h, t + 1) for t in range(world.ticks(h))] for h in houses],
        [world.silent_since(a, b) for a in houses for b in houses if a != b],
    )


def end_state(world):
    """States, sheets and deeds in progress."""
    told = telling(world)
    return told[3], told[5], told[6]


def house_by(event):
    return event[3] if event[0] == "hand" else event[1]


def made_by(events, house):
    """The times at which the house made its sheets."""
    return [t for t, e in enumerate(events) if e == ("tick", house)]


def past_by(events, time):
    """[11], word by word: the earlier events of the house, and the pasts of the ticks whose sheets are handed."""
    found, left = set(), [time]
    while left:
        at = left.pop()
        own = {t for t in range(at + 1) if house_by(events[t]) == house_by(events[at])}
        for t in own - found:
            if events[t][0] == "hand":
                left.append(made_by(events, events[t][1])[events[t][2] - 1])
        found |= own
    return tuple(sorted(found))


def serves_by(net, houses, events, start, end):
    """[10]: whether the run from start to end, both included, serves the houses."""
    if any(("tick", h) not in events[start:end + 1] for h in houses):
        return False
    for a, b in net.links:
        if a in houses and b in houses:
            made = made_by(events, a)
            fresh = [t + 1 for t, time in enumerate(made) if time >= start]
            if not any(events[t] == ("hand", a, k, b) for t in range(start, end + 1) for k in fresh if made[k - 1] < t):
                return False
    return True


def ends_by(net, houses, events, start):
    ends = []
    while start < len(events):
        fits = [end for end in range(start, len(events)) if serves_by(net, houses, events, start, end)]
        if not fits:
            break
        ends.append(fits[0])
        start = fits[0] + 1
    return tuple(ends)


def struck(pick, machine, pattern):
    """A fresh world of the machine behind the strike of a pattern."""
    world = World(machine)
    for h in pattern.fallen:
        world.do(("fall", h))
    for a, b in pattern.silent:
        world.do(("hush", a, b))
    return world


def some_nets(seed, many, most_houses=5):
    pick = random.Random(seed)
    for _ in range(many):
        houses = pick.randint(1, most_houses)
        pattern = some_pattern(pick, houses)
        yield Net(houses, pattern), Reach(houses, pattern)


def loose_stretch(pick, world, net, houses):
    """Events that serve the houses, done in the world: ticks and hands in a loose order, some of them doubled."""
    links = [link for link in net.links if link[0] in houses and link[1] in houses]
    ticks = {h: False for h in houses}
    left = dict.fromkeys(links, True)
    start = {h: world.ticks(h) for h in houses}
    while not all(ticks.values()) or left:
        h = pick.choice(list(houses))
        if not ticks[h] or pick.random() < 0.2:
            world.do(("tick", h))
            ticks[h] = True
        for link in pick.sample(links, len(links)):
            if world.ticks(link[0]) > start[link[0]] and pick.random() < 0.4:
                number = pick.randint(start[link[0]] + 1, world.ticks(link[0]))
                world.do(("hand", link[0], number, link[1]))
                left.pop(link, None)
