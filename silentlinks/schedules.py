"""Schedules: their texts, and the exchange of successive events."""

from silentlinks.amounts import is_below
from silentlinks.deeds import DEEDS, VALUE
from silentlinks.errors import BadNumber, BadText, NotFree
from silentlinks.texts import counted_lines, number_in, words_in


def event_text(event):
    """The text of an event."""
    word = event[0]
    if word == "begin":
        return " ".join([word, str(event[1])] + [str(value) for value in event[2]])
    if word == "hand":
        return f"hand {event[1]} {event[2]} to {event[3]}"
    return " ".join([str(value) for value in event])


def schedule_text(schedule):
    """The text of a schedule, a line for each event."""
    return "\n".join([event_text(event) for event in schedule])


def value_in(word):
    """The number that a word writes, a minus ahead of it or none; None if it writes none."""
    if not word.startswith("-"):
        return number_in(word)
    number = number_in(word[1:])
    return None if number is None or number == 0 else -number


def deed_in(words):
    """The deed that one or more words write, None if they write none."""
    if words[0] not in DEEDS:
        return None
    kinds = DEEDS[words[0]]
    if len(words) != len(kinds) + 1:
        return None
    numbers = [value_in(word) if kind == VALUE else number_in(word) for kind, word in zip(kinds, words[1:])]
    return None if None in numbers else (words[0],) + tuple(numbers)


def begin_in(words):
    """The begin that words write behind the word of it, None if they write none."""
    house = number_in(words[0])
    deed = deed_in(words[1:])
    return None if house is None or deed is None else ("begin", house, deed)


def hand_in(words):
    """The hand that four words write behind the word of it, None if they write none."""
    numbers = [number_in(words[0]), number_in(words[1]), number_in(words[3])]
    if None in numbers or words[2] != "to" or numbers[1] == 0 or numbers[0] == numbers[2]:
        return None
    return ("hand", numbers[0], numbers[1], numbers[2])


def plain_in(words):
    """The event of one house, or the hush, that words write; None if they write none."""
    numbers = [number_in(word) for word in words[1:]]
    if None in numbers:
        return None
    if words[0] in ("tick", "fall", "wake") and len(numbers) == 1:
        return (words[0], numbers[0])
    if words[0] == "hush" and len(numbers) == 2 and numbers[0] != numbers[1]:
        return ("hush", numbers[0], numbers[1])
    return None


def event_in(words):
    """The event that one or more words write, None if they write none."""
    if words[0] == "begin" and len(words) > 2:
        return begin_in(words[1:])
    if words[0] == "hand" and len(words) == 5:
        return hand_in(words[1:])
    return plain_in(words)


def schedule_from(text):
    """The tuple of events that a text writes; BadText(line) with the first wrong line."""
    events = []
    for line, told in counted_lines(text):
        event = event_in(words_in(told))
        if event is None:
            raise BadText(line)
        events.append(event)
    return tuple(events)


def house_of_event(event):
    """The house of an event."""
    return event[3] if event[0] == "hand" else event[1]


def check_time(schedule, time):
    """The time; BadNumber("time") if there is no event at it."""
    if not is_below(time, len(schedule)):
        raise BadNumber("time")
    return time


def sheets_made(schedule, end):
    """For each house how many sheets it makes ahead of the time end, a dict; a house without a sheet is left out."""
    made = {}
    for time in range(end):
        event = schedule[time]
        if event[0] == "tick":
            made[event[1]] = made.get(event[1], 0) + 1
    return made


def makes_sheet(schedule, time, hand):
    """Whether the event at this time is the tick that makes the sheet which the event hand hands."""
    event = schedule[time]
    if event[0] != "tick" or hand[0] != "hand" or event[1] != hand[1]:
        return False
    return sheets_made(schedule, time + 1)[event[1]] == hand[2]


def is_free(schedule, time):
    """Whether the events at time and time + 1 may be exchanged."""
    check_time(schedule, time)
    check_time(schedule, time + 1)
    first, other = schedule[time], schedule[time + 1]
    if house_of_event(first) == house_of_event(other):
        return False
    return not makes_sheet(schedule, time, other) and not makes_sheet(schedule, time + 1, first)


def exchanged(schedule, time):
    """The schedule with the events at time and time + 1 exchanged; NotFree(time) if they are not free."""
    if not is_free(schedule, time):
        raise NotFree(time)
    events = list(schedule)
    events[time], events[time + 1] = schedule[time + 1], schedule[time]
    return tuple(events)
