"""The row by numbers, which is an order of the history of a memory."""

from silentlinks.amounts import is_below
from silentlinks.errors import NoDeed
from silentlinks.tours import tours_in, tours_of


def record_at(world, at):
    """The record at this position of the history; NoDeed(at) if there is none."""
    history = world.history()
    if not is_below(at, len(history)):
        raise NoDeed(at)
    return history[at]


def turn_at(world, at):
    """How many deeds the house of a deed had begun ahead of it."""
    history = world.history()
    return len([record for record in history[:at] if record[0] == history[at][0]])


def deed_tours(world, at):
    """The tours of a deed in order, the running one with them."""
    house = record_at(world, at)[0]
    turn = turn_at(world, at)
    return tuple([tour for tour in tours_of(world.state(house)) if tour[0] == turn])


def stamp_told(world, at):
    """The stamp that a put has made, or whose value an ended get answered; otherwise None."""
    house, deed, _, ended, _ = record_at(world, at)
    tours = deed_tours(world, at)
    if deed[0] == "put":
        return put_stamp(world.machine, house, deed, tours)
    if deed[0] == "get" and ended is not None:
        return tours[-1][3][deed[1]][:2]
    return None


def put_stamp(machine, house, deed, tours):
    """The stamp that a put has made in these tours, None if there is none yet."""
    if machine.owners[deed[1]] is not None:
        return None if len(tours) == 0 else (tours[0][0] + 1, house)
    return None if len(tours) < 2 else (tours[0][4] + 1, house)


def ended_tours(world):
    """All ended tours of all houses."""
    return [tour for house, tour in tours_in(world) if tour[6] is not None]


def least_of(tours, place, stamp):
    """The least NUMBER of those ended tours whose PUT has at a register at least this stamp, None if there is none."""
    if stamp == (0, -1):
        return 0
    return min([tour[4] for tour in tours if tour[3][place][:2] >= stamp], default=None)


def least_number(world, place, stamp):
    """The number m of a stamp at a register."""
    return least_of(ended_tours(world), place, stamp)


def number_of_deed(world, ended, at):
    """The number at which a deed stands among these ended tours, None if it stands nowhere."""
    deed, last = world.history()[at][1], world.history()[at][3]
    if deed[0] == "look":
        return None if last is None else deed_tours(world, at)[-1][4]
    stamp = stamp_told(world, at)
    if stamp is None:
        return None
    least = least_of(ended, deed[1], stamp)
    return least if deed[0] == "put" else max(deed_tours(world, at)[0][4], least)


def place_numbers(world):
    """For each position of the history the number at which its deed stands, or None."""
    ended = ended_tours(world)
    return tuple([number_of_deed(world, ended, at) for at in range(len(world.history()))])


def rank(world, ended, at, number):
    """By what a deed that stands at this number is ordered, its position last."""
    deed = world.history()[at][1]
    if deed[0] != "look":
        stamp = stamp_told(world, at)
        if deed[0] == "put" or least_of(ended, deed[1], stamp) == number:
            return (number, 0, deed[1], stamp, 0 if deed[0] == "put" else 1, at)
    return (number, 1, 0, (0, 0), 0, at)


def order_by_numbers(world):
    """The positions of the deeds that stand somewhere, in the row by numbers."""
    ended = ended_tours(world)
    numbers = list(enumerate(place_numbers(world)))
    rows = [rank(world, ended, at, number) for at, number in numbers if number is not None]
    return tuple([row[-1] for row in sorted(rows)])
