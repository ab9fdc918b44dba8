"""Papers against machines: a put that a reader has not heard of."""

from silentlinks.amounts import is_row, meet, same_value
from silentlinks.errors import BadPaper
from silentlinks.friends import place_of
from silentlinks.lone import answered_schedule, chain_houses, check_patience, lone_answered, lone_schedule
from silentlinks.nets import net_of
from silentlinks.papers import Mute, TwoRuns
from silentlinks.parts import past
from silentlinks.stretches import do_strike, rounds_to_answer
from silentlinks.views import pruned
from silentlinks.worlds import done_world, run

PUT = ("put", 0, 1)
GET = ("get", 0)


def only_begin(machine, schedule, deed):
    """The time of the only begin of a schedule, of any kind, which is of this deed; its last event answers it.

    BadPaper() if the schedule is not so, or is not done as a whole.
    """
    world = done_world(machine, schedule) if is_row(schedule) else None
    if world is None or len(world.history()) != 1:
        raise BadPaper()
    _, told, begun, ended, _ = world.history()[0]
    if not same_value(told, deed) or ended != len(schedule) - 1:
        raise BadPaper()
    return begun


def begin_and_place(machine, book, schedule, deed, place, patience):
    """The time of the only begin of a schedule, as only_begin, and the place of the other deed.

    BadPaper(), then NotAPlace(0), then the error of the patience.
    """
    start = only_begin(machine, schedule, deed)
    pair = place_of(book, place, 0)
    check_patience(patience)
    return (start, pair)


def two_places(book, first, other, patience):
    """Two places of the book; NotAPlace(0), NotAPlace(1), then the error of the patience."""
    places = (place_of(book, first, 0), place_of(book, other, 1))
    check_patience(patience)
    return places


def has_chain_house(book, place, schedule, start):
    """Whether the past of a place has a chain house of the begin at start and of the last event."""
    net = net_of(book, place[0])
    return meet(past(net, place[1]), chain_houses(schedule, start, len(schedule) - 1))


def is_quiet(event):
    """Whether an event is no fall, wake or hush."""
    return event[0] in ("begin", "tick", "hand")


def quiet_past(schedule):
    """The events of the past of the last event, in order, without falls, wakes and hushes."""
    return tuple([event for event in pruned(schedule, len(schedule) - 1) if is_quiet(event)])


def asked_in_rounds(world, book, place, deed, patience):
    """Begins a deed at the house of a place, and does rounds of the place until it is answered.

    The number of the round that answers, None if none of the first patience rounds does.
    """
    net = net_of(book, place[0])
    world.do(("begin", place[1], deed))
    return rounds_to_answer(world, net, past(net, place[1]), place[1], patience)


def struck_behind(machine, book, schedule, place):
    """A world behind what the last event of a schedule depends on, and behind the strike of the place's pattern."""
    world = run(machine, quiet_past(schedule))
    do_strike(world, book[place[0]])
    return world


def runs_told(book, world, place):
    """The TwoRuns of a world in which the house of place was answered last, behind the only other deed."""
    writer, _, start, _, _ = world.history()[0]
    return TwoRuns(book, answered_schedule(world), place[0], writer, place[1], start)


def behind_writer(machine, book, schedule, place, deed, patience):
    """The paper in which a deed is begun at a place that hears nothing of the answered deed of the schedule."""
    world = struck_behind(machine, book, schedule, place)
    start = world.clock
    if asked_in_rounds(world, book, place, deed, patience) is None:
        return Mute(book, tuple(world), place[0], place[1], start)
    return runs_told(book, world, place)


def put_first_of(machine, book, schedule, reader, patience):
    """The paper of a get behind the put of a schedule; None if the past of reader has a chain house of the put."""
    start, place = begin_and_place(machine, book, schedule, PUT, reader, patience)
    if has_chain_house(book, place, schedule, start):
        return None
    return behind_writer(machine, book, schedule, place, GET, patience)


def lone_mute(machine, book, place, deed, patience):
    """The Mute of a lone deed that is not answered."""
    schedule = lone_schedule(machine, net_of(book, place[0]), place[1], deed, patience)
    return Mute(book, schedule, place[0], place[1], 0)


def put_first(machine, book, writer, reader, patience):
    """The paper of a get of reader behind the lone put of writer, or of this put if it is not answered."""
    place, other = two_places(book, writer, reader, patience)
    schedule = lone_answered(machine, net_of(book, place[0]), place[1], PUT, patience)
    if schedule is None:
        return lone_mute(machine, book, place, PUT, patience)
    return put_first_of(machine, book, schedule, other, patience)
