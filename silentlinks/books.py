"""Books: rows of patterns for one number of houses."""

from silentlinks.amounts import all_links, house_count, is_below, is_row
from silentlinks.errors import BadBook, BadPattern, OtherHouses, TooMany
from silentlinks.patterns import Pattern

MOST_PATTERNS = 12


def fits_houses(houses, value):
    """Whether value, of any kind, is a Pattern that fits houses."""
    return isinstance(value, Pattern) and value.fits(houses)


def pattern_row(houses, patterns):
    """The patterns of a book as a tuple, with the errors that Book names for them."""
    if not is_row(patterns):
        raise BadPattern(-1)
    if len(patterns) == 0:
        raise BadBook()
    if len(patterns) > MOST_PATTERNS:
        raise TooMany("patterns")
    for number, pattern in enumerate(patterns):
        if not fits_houses(houses, pattern):
            raise BadPattern(number)
    return tuple(patterns)


def check_pattern_number(many, number):
    """The number; BadPattern(number) unless it is one of so many patterns."""
    if not is_below(number, many):
        raise BadPattern(number)
    return number


class Book:
    """A number of houses with a row of patterns."""

    def __init__(self, houses, patterns):
        self.houses = house_count(houses)
        self.patterns = pattern_row(houses, patterns)

    def __len__(self):
        return len(self.patterns)

    def __iter__(self):
        return iter(self.patterns)

    def __getitem__(self, at):
        return self.patterns[check_pattern_number(len(self.patterns), at)]

    def __eq__(self, other):
        return isinstance(other, Book) and self.houses == other.houses and self.patterns == other.patterns

    def __add__(self, other):
        if self.houses != other.houses:
            raise OtherHouses()
        return Book(self.houses, self.patterns + other.patterns)

    def __sub__(self, other):
        number = check_pattern_number(len(self.patterns), other)
        return Book(self.houses, self.patterns[:number] + self.patterns[number + 1:])

    def replaced(self, number, pattern):
        """The book with pattern in the place of that of this number."""
        check_pattern_number(len(self.patterns), number)
        if not fits_houses(self.houses, pattern):
            raise BadPattern(-1)
        return Book(self.houses, self.patterns[:number] + (pattern,) + self.patterns[number + 1:])

    def harshest(self):
        """The numbers of the harshest patterns, ascending."""
        return tuple([number for number in range(len(self.patterns)) if self.is_harshest(number)])

    def is_harshest(self, number):
        """Whether each pattern harsher than that of this number has the same net and no lesser number."""
        pattern = self.patterns[number]
        for at, other in enumerate(self.patterns):
            # Patterns that are harsher than one another are just those with the same net.
            if other.harsher(pattern) and (at < number or not pattern.harsher(other)):
                return False
        return True

    @classmethod
    def alone(cls, houses):
        """The book in which each house falls in one pattern, and no house hears another one."""
        house_count(houses)
        links = all_links(houses)
        rows = []
        for house in range(houses):
            rows.append(Pattern([house], links))
        return cls(houses, rows)
