"""Worlds: the houses of a machine, and the events that are done with them."""

from silentlinks.amounts import house_of, is_below, is_number, link_of
from silentlinks.errors import (
    BadEvent, BadLinks, BadMachine, IsAwake, IsBusy, IsSilent, LinksError, NoSheet, NotAdmitted, NotAwake, NotDone,
)
from silentlinks.machines import Machine

# For the word of each event the number of its members, the word counted.
LENGTHS = {"begin": 3, "tick": 2, "hand": 4, "fall": 2, "wake": 2, "hush": 3}


def is_event_form(event):
    """Whether event, of any kind, is a tuple with the word and the length of an event."""
    if not isinstance(event, tuple) or len(event) == 0 or not isinstance(event[0], str):
        return False
    return len(event) == LENGTHS.get(event[0], 0)


def is_event(houses, event):
    """Whether event, of any kind, is an event of so many houses."""
    if not is_event_form(event) or not is_below(event[1], houses):
        return False
    word = event[0]
    if word == "begin":
        return isinstance(event[2], tuple)
    if word == "hush":
        return link_of(houses, event[1:]) is not None
    if word == "hand":
        return is_number(event[2]) and event[2] >= 1 and link_of(houses, (event[1], event[3])) is not None
    return True


def check_machine(value):
    """The value; BadMachine() if it is no Machine."""
    if not isinstance(value, Machine):
        raise BadMachine()
    return value


class World:
    """A world of a machine, fresh at first."""

    def __init__(self, machine):
        self.machine = check_machine(machine)
        self.houses = machine.houses
        self._events = []
        self._states = [machine.fresh(me) for me in range(machine.houses)]
        self._sheets = [[] for me in range(machine.houses)]
        self._fallen = {}
        # For each silent link how many sheets its first end had made when it fell silent.
        self._hushes = {}
        self._history = []
        # For each house with a deed in progress the position of its record in the history.
        self._pending = {}

    def __iter__(self):
        return iter(self._events)

    @property
    def clock(self):
        """How many events were done."""
        return len(self._events)

    def do(self, event):
        """Does the event; the answer if it is a tick that ends a deed, otherwise None."""
        self.check(event)
        answer = None
        word, house = event[0], event[1]
        if word == "begin":
            self.do_begin(house, event[2])
        elif word == "tick":
            answer = self.do_tick(house)
        elif word == "hand":
            self.do_hand(house, event[2], event[3])
        elif word == "fall":
            self._fallen[house] = True
        elif word == "wake":
            del self._fallen[house]
        else:
            self._hushes[(house, event[2])] = len(self._sheets[house])
        self._events.append(event)
        return answer

    def do_begin(self, house, deed):
        """Begins a deed that may be begun."""
        self._states[house] = self.machine.begin(self._states[house], house, deed)
        self._pending[house] = len(self._history)
        self._history.append((house, deed, len(self._events), None, None))

    def do_tick(self, house):
        """Does a tick of a house that is awake; the answer if it ends a deed, otherwise None."""
        state, answer = self.machine.tick(self._states[house], house)
        self._states[house] = state
        self._sheets[house].append(state)
        if answer is None or house not in self._pending:
            return None
        at = self._pending[house]
        deed, begun = self._history[at][1], self._history[at][2]
        self._history[at] = (house, deed, begun, len(self._events), answer)
        del self._pending[house]
        return answer

    def do_hand(self, origin, number, house):
        """Hands a sheet that may be handed."""
        sheet = self._sheets[origin][number - 1]
        self._states[house] = self.machine.hear(self._states[house], house, origin, sheet)

    def check(self, event):
        """The first error that doing this event, of any kind, raises; nothing if it can be done."""
        if not is_event(self.houses, event):
            raise BadEvent()
        word = event[0]
        if word == "begin":
            self.check_begin(event[1], event[2])
        elif word == "hand":
            self.check_hand(event[1], event[2], event[3])
        elif word == "wake":
            if event[1] not in self._fallen:
                raise IsAwake(event[1])
        elif word == "hush":
            if event[1:] in self._hushes:
                raise IsSilent(event[1], event[2])
        else:
            self.check_awake(event[1])

    def check_awake(self, house):
        """NotAwake(house) if it is fallen."""
        if house in self._fallen:
            raise NotAwake(house)

    def check_begin(self, house, deed):
        """The first error of a begin that has its form."""
        self.check_awake(house)
        if house in self._pending:
            raise IsBusy(house)
        if not self.machine.admits(house, deed):
            raise NotAdmitted(house)

    def check_hand(self, origin, number, house):
        """The first error of a hand that has its form."""
        self.check_awake(house)
        made = len(self._sheets[origin])
        if number > made:
            raise NoSheet(origin, number)
        if number > self._hushes.get((origin, house), made):
            raise IsSilent(origin, house)

    def can(self, event):
        """Whether do would do the event."""
        try:
            self.check(event)
        except LinksError:
            return False
        return True

    def state(self, house):
        """The state of a house."""
        return self._states[house_of(self.houses, house)]

    def ticks(self, house):
        """How many sheets a house has made."""
        return len(self._sheets[house_of(self.houses, house)])

    def awake(self, house):
        """Whether a house is awake."""
        return house_of(self.houses, house) not in self._fallen

    def deed(self, house):
        """The deed in progress at a house, or None."""
        at = self._pending.get(house_of(self.houses, house))
        return None if at is None else self._history[at][1]

    def sheet(self, house, number):
        """The sheet of a house with this number."""
        rows = self._sheets[house_of(self.houses, house)]
        if not is_below(number, len(rows) + 1) or number == 0:
            raise NoSheet(house, number)
        return rows[number - 1]

    def silent_since(self, first, other):
        """How many sheets first had made when the link fell silent, None if it is not silent."""
        link = link_of(self.houses, (first, other))
        if link is None:
            raise BadLinks(-1)
        return self._hushes.get(link)

    def history(self):
        """All records in the order of begun."""
        return tuple(self._history)

    def twin(self):
        """A new World in which the same was done."""
        made = World(self.machine)
        made._events = list(self._events)
        made._states = list(self._states)
        made._sheets = [list(rows) for rows in self._sheets]
        made._fallen = {house: True for house in self._fallen}
        made._hushes = {link: self._hushes[link] for link in self._hushes}
        made._history = list(self._history)
        made._pending = {house: self._pending[house] for house in self._pending}
        return made


def run(machine, schedule):
    """The World behind the events of a list or tuple; NotDone(time) at the first refused one."""
    world = World(machine)
    for time, event in enumerate(schedule):
        try:
            world.do(event)
        except LinksError as e:
            raise NotDone(time) from e
    return world


def done_world(machine, schedule):
    """The World behind the events of a list or tuple, None if one is refused."""
    try:
        return run(machine, schedule)
    except NotDone:
        return None
