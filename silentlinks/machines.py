"""Machines: what a house does with deeds, sheets and ticks."""

from silentlinks.amounts import house_count
from silentlinks.deeds import is_deed


class Machine:
    """The base of all machines: it counts its ticks and takes no deed."""

    def __init__(self, houses):
        self.houses = house_count(houses)

    def fresh(self, me):
        """The first state of a house."""
        return (0,)

    def begin(self, state, me, deed):
        """The state with a deed begun."""
        return state

    def hear(self, state, me, origin, sheet):
        """The state behind a sheet of the house origin."""
        return state

    def tick(self, state, me):
        """The state behind a tick, and the answer, None if there is none yet."""
        return ((state[0] + 1,), None)

    def admits(self, me, deed):
        """Whether the house me takes this deed."""
        return False


class Gossip(Machine):
    """A machine that spreads the clocks of its houses; its states are (clocks, given, lately)."""

    def __init__(self, houses):
        self.houses = house_count(houses)

    def fresh(self, me):
        """All clocks 0, nothing given, nothing heard lately."""
        return ((0,) * self.houses, None, 0)

    def begin(self, state, me, deed):
        """The number of the deed is given."""
        return (state[0], deed[1], 0)

    def hear(self, state, me, origin, sheet):
        """Each clock becomes the greater one of state and sheet."""
        clocks = tuple([max(own, other) for own, other in zip(state[0], sheet[0])])
        return (clocks, state[1], 1)

    def tick(self, state, me):
        """The own clock goes on; what is given is answered behind a sheet heard lately."""
        clocks, given, lately = state
        later = clocks[:me] + (clocks[me] + 1,) + clocks[me + 1:]
        if given is not None and (lately == 1 or self.houses == 1):
            return ((later, None, 0), given)
        return ((later, given, lately), None)

    def admits(self, me, deed):
        """Whether deed is a tour with a number."""
        return is_deed(deed, "tour", 1)
