"""Lone runs: one deed in the fresh world, and rounds for the past of its house."""

from silentlinks.amounts import check_number, common
from silentlinks.errors import BadNumber
from silentlinks.nets import alive_house
from silentlinks.parts import past
from silentlinks.schedules import check_time, house_of_event
from silentlinks.stretches import do_rounds, rounds_to_answer
from silentlinks.views import past_times, tick_times
from silentlinks.worlds import World

MOST_ROUNDS = 200


def check_rounds(many, name, least):
    """The number of rounds; BadNumber(name) unless it is a number from least to 200."""
    if check_number(many, name, least) > MOST_ROUNDS:
        raise BadNumber(name)
    return many


def check_patience(patience):
    """The patience; BadNumber("patience") unless it is a number from 1 to 200."""
    return check_rounds(patience, "patience", 1)


def lone_world(machine, net, house, deed):
    """The fresh world behind the begin of a deed at an alive house."""
    alive_house(net, house)
    world = World(machine)
    world.do(("begin", house, deed))
    return world


def lone_round(machine, net, house, deed, patience):
    """The round of the lone run in which the deed is answered, None if none of the first patience rounds is."""
    world = lone_world(machine, net, house, deed)
    return rounds_to_answer(world, net, past(net, house), house, check_patience(patience))


def lone_schedule(machine, net, house, deed, rounds):
    """The schedule of the lone run with so many rounds, whether the deed is answered or not."""
    world = lone_world(machine, net, house, deed)
    do_rounds(world, net, past(net, house), check_rounds(rounds, "rounds", 0))
    return tuple(world)


def answered_schedule(world):
    """The events of a world up to and with the tick that answers the deed begun last."""
    return tuple(world)[:world.history()[-1][3] + 1]


def lone_answered(machine, net, house, deed, patience):
    """The schedule of the lone run up to and with the tick that answers, None if the deed is not answered."""
    world = lone_world(machine, net, house, deed)
    told = rounds_to_answer(world, net, past(net, house), house, check_patience(patience))
    return None if told is None else answered_schedule(world)


def hanging_times(schedule, time):
    """The times of all events that hang on the event at this time, ascending."""
    check_time(schedule, time)
    made_at = tick_times(schedule)
    found = {}
    houses = {}
    for at in range(time, len(schedule)):
        event = schedule[at]
        house = house_of_event(event)
        heard = event[0] == "hand" and made_at[(event[1], event[2])] in found
        if at == time or house in houses or heard:
            found[at] = True
            houses[house] = True
    return tuple(sorted(found))


def chain_houses(schedule, first, last):
    """The houses of all events that hang on the event at first and are in the past of that at last, ascending."""
    hanging = hanging_times(schedule, first)
    times = common(hanging, past_times(schedule, last))
    return tuple(sorted({house_of_event(schedule[time]) for time in times}))
