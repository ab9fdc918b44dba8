"""Strikes, rounds and stretches."""

from silentlinks.amounts import check_number, is_below
from silentlinks.books import fits_houses
from silentlinks.errors import BadNumber, BadPattern, BadSet
from silentlinks.paths import is_alive_row
from silentlinks.schedules import sheets_made


class Within:
    """Tells of schedules whether they are within a pattern."""

    def __init__(self, pattern):
        self.pattern = pattern

    def __call__(self, schedule):
        """Whether the schedule is within the pattern."""
        return all([self.allows(event) for event in schedule])

    def allows(self, event):
        """Whether the event is no fall, wake or hush but one within the pattern."""
        if event[0] in ("fall", "wake"):
            return event[1] in self.pattern.fallen
        return event[0] != "hush" or (event[1], event[2]) in self.pattern.silent


def strike(world, pattern):
    """The events of the strike of a pattern as the world stands."""
    if not fits_houses(world.houses, pattern):
        raise BadPattern(-1)
    falls = [("fall", house) for house in pattern.fallen if world.awake(house)]
    hushes = [("hush", a, b) for a, b in pattern.silent if world.silent_since(a, b) is None]
    return tuple(falls + hushes)


def alive_set(net, houses):
    """The set of alive houses, ascending; BadSet(-1) if houses, of any kind, is none."""
    if not is_alive_row(net, houses):
        raise BadSet(-1)
    return tuple(sorted(houses))


def links_within(net, houses):
    """The lasting links with both ends in the set of houses, ascending."""
    return tuple([(a, b) for a, b in net.links if a in houses and b in houses])


def round_events(world, net, houses):
    """The events of the round that would come next in the world."""
    chosen = alive_set(net, houses)
    ticks = [("tick", house) for house in chosen]
    hands = [("hand", a, world.ticks(a) + 1, b) for a, b in links_within(net, chosen)]
    return tuple(ticks + hands)


def do_all(world, events):
    """Does the events one after the other; a list of a tuple (time, house, answer) for each answer."""
    answers = []
    for event in list(events):
        answer = world.do(event)
        if answer is not None:
            answers.append((world.clock - 1, event[1], answer))
    return answers


def do_strike(world, pattern):
    """Does the strike of a pattern; the tuple of its events."""
    events = strike(world, pattern)
    do_all(world, events)
    return events


def do_rounds(world, net, houses, many):
    """Does so many rounds; a list of a tuple (round, house, answer) for each answer."""
    chosen = alive_set(net, houses)
    answers = []
    for at in range(check_number(many, "many", 0)):
        for time, house, answer in do_all(world, round_events(world, net, chosen)):
            answers.append((at + 1, house, answer))
    return answers


def rounds_to_answer(world, net, houses, house, many):
    """Does rounds up to the one in which the deed in progress at house is answered, at most so many.

    The number of that round, None if the deed is not answered in them.
    """
    for at in range(many):
        do_all(world, round_events(world, net, houses))
        if world.deed(house) is None:
            return at + 1
    return None


def is_closed(net, houses):
    """Whether no lasting link leads into the set of houses from outside."""
    chosen = alive_set(net, houses)
    return not any([b in chosen and a not in chosen for a, b in net.links])


class Serving:
    """What a run of events does to serve a set of houses."""

    def __init__(self, net, houses, made):
        self.idle = {house: True for house in houses}
        self.unheard = {link: True for link in links_within(net, houses)}
        # How many sheets each house has made ahead of the run, and by now.
        self.ahead = {house: made[house] for house in made}
        self.made = {house: made[house] for house in made}
        # How often each house has ticked in the run.
        self.ticked = {}

    def take(self, event):
        """Takes in the next event of the run."""
        if event[0] == "tick":
            house = event[1]
            self.made[house] = self.made.get(house, 0) + 1
            self.ticked[house] = self.ticked.get(house, 0) + 1
            self.idle.pop(house, None)
        if event[0] == "hand" and self.ahead.get(event[1], 0) < event[2] <= self.made.get(event[1], 0):
            self.unheard.pop((event[1], event[3]), None)

    def serves(self):
        """Whether the run serves the houses."""
        return len(self.idle) == 0 and len(self.unheard) == 0


def stretch_ends(net, houses, schedule, start):
    """The times of the last events of the stretches from the time start on."""
    chosen = alive_set(net, houses)
    if not is_below(start, len(schedule) + 1):
        raise BadNumber("start")
    ends = []
    serving = Serving(net, chosen, sheets_made(schedule, start))
    for time in range(start, len(schedule)):
        serving.take(schedule[time])
        if serving.serves():
            ends.append(time)
            serving = Serving(net, chosen, serving.made)
    return tuple(ends)


def is_even(net, houses, schedule, start, end):
    """Whether the events from start to end serve the houses, each of which ticks just once in them."""
    chosen = alive_set(net, houses)
    if not is_below(start, len(schedule)):
        raise BadNumber("start")
    if not is_below(end, len(schedule)) or end < start:
        raise BadNumber("end")
    serving = Serving(net, chosen, sheets_made(schedule, start))
    for time in range(start, end + 1):
        serving.take(schedule[time])
    return serving.serves() and all([serving.ticked[house] == 1 for house in chosen])
