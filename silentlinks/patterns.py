"""Patterns: which houses fall and which links are silent."""

from silentlinks.amounts import all_links, common, house_set, is_below, link_set, merged


class Pattern:
    """A set of fallen houses and a set of silent links, for any number of houses."""

    def __init__(self, fallen=(), silent=()):
        self.fallen = house_set(None, fallen)
        self.silent = link_set(None, silent)

    def __eq__(self, other):
        return isinstance(other, Pattern) and self.fallen == other.fallen and self.silent == other.silent

    def __or__(self, other):
        return Pattern(merged(self.fallen, other.fallen), merged(self.silent, other.silent))

    def __and__(self, other):
        return Pattern(common(self.fallen, other.fallen), common(self.silent, other.silent))

    def fits(self, houses):
        """Whether every number in the pattern is below houses."""
        ends = [house for link in self.silent for house in link]
        return all([is_below(house, houses) for house in list(self.fallen) + ends])

    def standing(self, houses):
        """The alive houses, ascending."""
        return tuple([house for house in range(houses) if house not in self.fallen])

    def lasts(self, first, other):
        """Whether first and other are unlike, neither is fallen and the link between them is not silent."""
        if first == other or first in self.fallen or other in self.fallen:
            return False
        return (first, other) not in self.silent

    def lasting(self, houses):
        """The lasting links, ascending."""
        return tuple([(a, b) for a, b in all_links(houses) if self.lasts(a, b)])

    def harsher(self, other):
        """Whether this pattern is harsher than the Pattern other."""
        if not all([house in self.fallen for house in other.fallen]):
            return False
        return not any([self.lasts(a, b) for a, b in other.silent])

    def plain(self):
        """The pattern without the silent links that have a fallen end."""
        kept = [(a, b) for a, b in self.silent if a not in self.fallen and b not in self.fallen]
        return Pattern(self.fallen, kept)

    @classmethod
    def calm(cls):
        """The pattern in which nothing falls and nothing is silent."""
        return cls()

    @staticmethod
    def cut(first, second):
        """The links from a number of first to an unlike number of second, ascending."""
        return tuple(sorted({(a, b) for a in first for b in second if a != b}))
