"""Two runs against machines that answer before a chain can come to them."""

from silentlinks.amounts import meet
from silentlinks.echoes import inner
from silentlinks.getfirst import parted_past
from silentlinks.lone import answered_schedule, chain_houses, lone_answered
from silentlinks.nets import net_of
from silentlinks.papers import TwoRuns
from silentlinks.putfirst import GET, PUT, asked_in_rounds, runs_told, struck_behind, two_places
from silentlinks.views import past_times
from silentlinks.worlds import run


def comes_in_time(book, place, schedule, rounds):
    """Whether a chain house of the lone deed of a schedule comes to the place in less than so many rounds."""
    houses = chain_houses(schedule, 0, len(schedule) - 1)
    return meet(houses, inner(net_of(book, place[0]), place[1], rounds - 1))


def put_then_get(machine, book, writer, reader, patience):
    """The TwoRuns of a get of reader behind the lone put of writer; None if it can have heard of the put."""
    place, other = two_places(book, writer, reader, patience)
    schedule = lone_answered(machine, net_of(book, place[0]), place[1], PUT, patience)
    if schedule is None:
        return None
    world = struck_behind(machine, book, schedule, other)
    rounds = asked_in_rounds(world, book, other, GET, patience)
    if rounds is None or comes_in_time(book, other, schedule, rounds):
        return None
    return runs_told(book, world, other)


def kept_events(schedule, begun):
    """The events ahead of the time begun, and those behind it in the past of the last event."""
    times = [time for time in past_times(schedule, len(schedule) - 1) if time >= begun]
    return schedule[:begun] + tuple([schedule[time] for time in times])


def get_then_put(machine, book, reader, writer, patience):
    """The TwoRuns of a put of writer ahead of the lone get of reader; None if it can have heard of the get."""
    place, other = two_places(book, reader, writer, patience)
    schedule = lone_answered(machine, net_of(book, place[0]), place[1], GET, patience)
    if schedule is None:
        return None
    ahead, behind = parted_past(schedule, 0)
    world = run(machine, ahead)
    begun = world.clock
    rounds = asked_in_rounds(world, book, other, PUT, patience)
    if rounds is None or comes_in_time(book, other, schedule, rounds):
        return None
    made = kept_events(answered_schedule(world), begun)
    return TwoRuns(book, made + behind, other[0], other[1], place[1], begun)
