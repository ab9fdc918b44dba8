"""What a house sees of a schedule, and what an event depends on."""

from silentlinks.amounts import house_of
from silentlinks.schedules import check_time, house_of_event


def told_event(world, event):
    """How the house of an event sees it, None if it does not."""
    word = event[0]
    if word == "begin":
        return ("begin", event[2])
    if word == "hand":
        return ("hand", event[1], event[2], world.sheet(event[1], event[2]))
    return (word,) if word in ("tick", "wake") else None


def view(world, house):
    """The view of a house in a world."""
    house_of(world.houses, house)
    rows = [told_event(world, event) for event in world if house_of_event(event) == house]
    return tuple([row for row in rows if row is not None])


def times_by_house(schedule):
    """For each house the times of its events, a dict of lists."""
    times = {}
    for time, event in enumerate(schedule):
        times.setdefault(house_of_event(event), []).append(time)
    return times


def tick_times(schedule):
    """For each pair of a house and a number the time of the house's tick with this number, a dict."""
    made = {}
    times = {}
    for time, event in enumerate(schedule):
        if event[0] == "tick":
            made[event[1]] = made.get(event[1], 0) + 1
            times[(event[1], made[event[1]])] = time
    return times


def past_times(schedule, time):
    """The times of the past of the event at this time, ascending."""
    check_time(schedule, time)
    times = times_by_house(schedule)
    made_at = tick_times(schedule)
    found = {}
    left = [time]
    while len(left) > 0:
        last = left.pop()
        if last not in found:
            for earlier in times[house_of_event(schedule[last])]:
                # What is behind the last event is not in its past; what was found has been followed.
                if earlier <= last and earlier not in found:
                    found[earlier] = True
                    event = schedule[earlier]
                    if event[0] == "hand":
                        left.append(made_at[(event[1], event[2])])
    return tuple(sorted(found))


def pruned(schedule, time):
    """The events of the past of the event at this time, in order."""
    return tuple([schedule[at] for at in past_times(schedule, time)])


def newest(schedule, time, house):
    """How many ticks of the house are in the past of the event at this time."""
    return pruned(schedule, time).count(("tick", house))
