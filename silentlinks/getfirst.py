"""Papers against machines: a get that has not heard of a put which was answered ahead of it."""

from silentlinks.amounts import meet
from silentlinks.lone import answered_schedule, hanging_times, lone_answered
from silentlinks.nets import net_of
from silentlinks.papers import Mute, TwoRuns
from silentlinks.putfirst import (
    GET, PUT, asked_in_rounds, begin_and_place, has_chain_house, is_quiet, lone_mute, quiet_past, two_places,
)
from silentlinks.schedules import house_of_event
from silentlinks.views import past_times
from silentlinks.worlds import run


def parted_past(schedule, start):
    """The quiet events of the past of the last one: those that do not hang on the event at start, and the others."""
    hanging = hanging_times(schedule, start)
    times = [time for time in past_times(schedule, len(schedule) - 1) if is_quiet(schedule[time])]
    ahead = [schedule[time] for time in times if time not in hanging]
    return (tuple(ahead), tuple([schedule[time] for time in times if time in hanging]))


def get_first_of(machine, book, schedule, writer, patience):
    """The paper of a put ahead of the get of a schedule; None if the past of writer has a chain house of the get."""
    start, place = begin_and_place(machine, book, schedule, GET, writer, patience)
    if has_chain_house(book, place, schedule, start):
        return None
    ahead, behind = parted_past(schedule, start)
    world = run(machine, ahead)
    begun = world.clock
    if asked_in_rounds(world, book, place, PUT, patience) is None:
        return Mute(book, tuple(world), place[0], place[1], begun)
    return TwoRuns(book, answered_schedule(world) + behind, place[0], place[1], schedule[start][1], begun)


def get_first(machine, book, reader, writer, patience):
    """The paper of a put of writer ahead of the lone get of reader, or of this get if it is not answered."""
    place, other = two_places(book, reader, writer, patience)
    schedule = lone_answered(machine, net_of(book, place[0]), place[1], GET, patience)
    if schedule is None:
        return lone_mute(machine, book, place, GET, patience)
    return get_first_of(machine, book, schedule, other, patience)


def apart_runs(machine, book, writer, reader, patience):
    """The paper of a lone put and a lone get, one behind the other; None if a house has to do with both."""
    place, other = two_places(book, writer, reader, patience)
    put = lone_answered(machine, net_of(book, place[0]), place[1], PUT, patience)
    if put is None:
        return lone_mute(machine, book, place, PUT, patience)
    get = lone_answered(machine, net_of(book, other[0]), other[1], GET, patience)
    if get is None:
        return lone_mute(machine, book, other, GET, patience)
    first, later = quiet_past(put), quiet_past(get)
    if meet([house_of_event(event) for event in first], [house_of_event(event) for event in later]):
        return None
    return TwoRuns(book, first + later, other[0], place[1], other[1], 0)
