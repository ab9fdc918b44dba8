"""A desk at which a world is run by hand."""

from silentlinks.claims import check_book
from silentlinks.errors import Closed, FixedMachine, NothingBack
from silentlinks.lone import check_patience, check_rounds
from silentlinks.lots import check_same_houses
from silentlinks.nets import Net
from silentlinks.patterns import Pattern
from silentlinks.stretches import do_all, do_rounds, do_strike, rounds_to_answer
from silentlinks.worlds import World, check_machine


class Desk:
    """A book, a machine, a world of it, and the pattern that was struck last."""

    def __init__(self, book, machine, *, patience=24):
        self.book = check_book(book)
        self._machine = check_machine(machine)
        check_same_houses(book, machine)
        self.patience = check_patience(patience)
        # A world that a desk has held is never changed: each action does its events in a twin.
        self._world = World(machine)
        self._struck = None
        # The worlds and struck patterns ahead of each action, and how many of them back leaves alone.
        self._past = ()
        self._floor = 0

    def __len__(self):
        return len(self._past)

    def __iter__(self):
        return iter(self._world._history)

    @property
    def machine(self):
        """The machine."""
        return self._machine

    @machine.setter
    def machine(self, value):
        """FixedMachine(): the world of a desk goes on with the machine that it began with."""
        raise FixedMachine()

    @property
    def struck(self):
        """The number of the pattern struck last, or None."""
        return self._struck

    @property
    def waiting(self):
        """The houses with a deed in progress, ascending."""
        return tuple(sorted(self._world._pending))

    def put_down(self, world, number):
        """Counts an action behind which the desk has this world and this struck pattern."""
        self._past = self._past + ((self._world, self._struck),)
        self._world = world
        self._struck = number

    def net_struck(self):
        """The net of the pattern struck last."""
        return Net(self.book.houses, Pattern() if self._struck is None else self.book[self._struck])

    def do(self, event):
        """Does the event; what do of World returns."""
        world = self._world.twin()
        answer = world.do(event)
        self.put_down(world, self._struck)
        return answer

    def strike(self, number):
        """Does the strike of the pattern of this number; the tuple of its events."""
        pattern = self.book[number]
        world = self._world.twin()
        events = do_strike(world, pattern)
        self.put_down(world, number)
        return events

    def rounds(self, many):
        """Does so many rounds; a list of a tuple (round, house, answer) for each answer."""
        check_rounds(many, "many", 0)
        net = self.net_struck()
        world = self._world.twin()
        answers = do_rounds(world, net, net.alive, many)
        self.put_down(world, self._struck)
        return answers

    def run_to_answer(self, house):
        """Does rounds up to the one in which the deed in progress at house is answered; how many, and the answer."""
        if self._world.deed(house) is None:
            return (0, None)
        net = self.net_struck()
        world = self._world.twin()
        rounds = rounds_to_answer(world, net, net.alive, house, self.patience)
        self.put_down(world, self._struck)
        if rounds is None:
            return (self.patience, None)
        return (rounds, [record for record in world.history() if record[0] == house][-1][4])

    def back(self):
        """Takes the last action back; True."""
        if len(self._past) <= self._floor:
            raise NothingBack()
        self._world, self._struck = self._past[-1]
        self._past = self._past[:-1]
        return True

    def world(self):
        """Another World in the state of that of the desk."""
        return self._world.twin()

    def done(self):
        """The events done, a tuple."""
        return tuple(self._world)


class Trial:
    """What is done at a desk within the block of a with statement is undone behind it."""

    def __init__(self, desk):
        self.desk = desk
        self._entered = False
        self._world = None
        self._struck = None
        self._past = ()
        self._floor = 0

    def __enter__(self):
        """The Trial; Closed() if it was entered before."""
        if self._entered:
            raise Closed()
        desk = self.desk
        self._entered = True
        self._world = desk._world
        self._struck = desk._struck
        self._past = desk._past
        self._floor = desk._floor
        desk._floor = len(desk._past)
        return self

    def __exit__(self, kind, value, trace):
        desk = self.desk
        desk._world = self._world
        desk._struck = self._struck
        desk._past = self._past
        desk._floor = self._floor


def what_if(desk, events):
    """A list of a tuple (time, house, answer) for each answer that these events would give at the desk now."""
    return do_all(desk.world(), events)
