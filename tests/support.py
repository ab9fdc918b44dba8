"""What the tests share: wanted errors, samples, and plain readings of the document's terms."""

import itertools
import random
import unittest

from silentlinks.books import Book
from silentlinks.lots import Lots
from silentlinks.patterns import Pattern

# None of these is a number, though some are equal to one.
NO_NUMBERS = (True, False, 1.0, 0.0, 2.0, "1", None, (1,), [1], b"1")


class LinksCase(unittest.TestCase):
    def raises(self, wanted, call, *args, **more):
        """The error that the call raises, of just the class and the attributes of wanted."""
        try:
            got = call(*args, **more)
        except type(wanted) as caught:
            self.assertIs(type(caught), type(wanted))
            self.assertEqual(repr(vars(caught)), repr(vars(wanted)))
            return caught
        self.fail(f"{type(wanted).__name__} is not raised, but {got!r} returned")

    def same(self, got, wanted):
        """Equal, and of the same kinds throughout (a list is no tuple, True is no 1)."""
        self.assertEqual(repr(got), repr(wanted))


def subsets(members):
    members = list(members)
    for size in range(len(members) + 1):
        yield from itertools.combinations(members, size)


def links_between(houses):
    return [(a, b) for a in range(houses) for b in range(houses) if a != b]


def all_patterns(houses):
    """Every pattern that fits so many houses."""
    return [Pattern(f, s) for f in subsets(range(houses)) for s in subsets(links_between(houses))]


def some_pattern(pick, houses):
    falls = pick.choice((0, 0, 0.2, 0.4, 0.9))
    hushes = pick.choice((0, 0.2, 0.5, 0.7, 0.9))
    fallen = [h for h in range(houses) if pick.random() < falls]
    silent = [link for link in links_between(houses) if pick.random() < hushes]
    pick.shuffle(fallen)
    pick.shuffle(silent)
    return Pattern(fallen, silent)


def some_patterns(seed, many, houses):
    pick = random.Random(seed)
    return [some_pattern(pick, houses) for _ in range(many)]


def sampled_patterns():
    """Pairs (houses, pattern): all for up to two houses, and a sample for more."""
    for houses in (1, 2):
        for pattern in all_patterns(houses):
            yield houses, pattern
    for houses in (3, 4, 5, 6, 7):
        for pattern in some_patterns(houses, 40, houses):
            yield houses, pattern


def some_books(seed, many, most_houses=5, most_patterns=5):
    pick = random.Random(seed)
    rows = []
    for _ in range(many):
        houses = pick.randint(1, most_houses)
        patterns = [some_pattern(pick, houses) for _ in range(pick.randint(1, most_patterns))]
        if pick.random() < 0.3:
            patterns.append(pick.choice(patterns))
        rows.append(Book(houses, patterns))
    return rows


def harder_pattern(pick, pattern, houses):
    """A pattern that is harsher than this one."""
    return pattern | some_pattern(pick, houses)


def split_book(rows):
    """For each row of houses a pattern in which they and the others of 7 houses do not hear one another."""
    patterns = []
    for row in rows:
        others = [house for house in range(7) if house not in row]
        patterns.append(Pattern((), Pattern.cut(row, others) + Pattern.cut(others, row)))
    return Book(7, patterns)


def descent_book(rows):
    """For each row of sets of houses a pattern of 7 houses in which each set hears those ahead of it alone."""
    patterns = []
    for row in rows:
        silent = [link for first, later in itertools.combinations(row, 2) for link in Pattern.cut(later, first)]
        patterns.append(Pattern((), silent))
    return Book(7, patterns)


class Reach:
    """The net of a pattern, read from point [4] in another way than the package does it."""

    def __init__(self, houses, pattern):
        self.houses = houses
        self.alive = [h for h in range(houses) if h not in pattern.fallen]
        self.links = [
            (a, b) for a in self.alive for b in self.alive
            if a != b and (a, b) not in pattern.silent
        ]
        self.far = {(a, b): 0 if a == b else None for a in self.alive for b in self.alive}
        for link in self.links:
            self.far[link] = 1
        for c, a, b in itertools.product(self.alive, repeat=3):
            if self.far[a, c] is not None and self.far[c, b] is not None:
                steps = self.far[a, c] + self.far[c, b]
                if self.far[a, b] is None or steps < self.far[a, b]:
                    self.far[a, b] = steps

    def after(self, a):
        return tuple(b for b in self.alive if self.far[a, b] is not None)

    def past(self, b):
        return tuple(a for a in self.alive if self.far[a, b] is not None)

    def part(self, b):
        return tuple(a for a in self.past(b) if a in self.after(b))

    def trip(self, b, x):
        if x not in self.part(b):
            return None
        return self.far[b, x] + self.far[x, b]

    def echo(self, b, limit):
        return tuple(x for x in self.part(b) if self.trip(b, x) <= limit)

    def holds_path(self, first, other, row):
        return (
            len(row) > 0 and row[0] == first and row[-1] == other and len(set(row)) == len(row)
            and all(h in self.alive for h in row) and all(link in self.links for link in zip(row, row[1:]))
        )

    def holds_wall(self, first, other, row):
        return (
            first in row and other not in row and all(h in self.alive for h in row)
            and not any(a in row and b not in row for a, b in self.links)
        )

    def paths(self, first, other):
        for size in range(len(self.alive) + 1):
            for row in itertools.permutations(self.alive, size):
                if self.holds_path(first, other, row):
                    yield row


def places_of(book):
    return [(i, h) for i, p in enumerate(book.patterns) for h in range(book.houses) if h not in p.fallen]


def reaches_of(book):
    return [Reach(book.houses, pattern) for pattern in book.patterns]


def sees_by(nets, place, other):
    return bool(set(nets[place[0]].past(place[1])) & set(nets[other[0]].part(other[1])))


def friends_by(nets, place, other):
    return sees_by(nets, place, other) and sees_by(nets, other, place)


def keepable_by(nets, places):
    return all(friends_by(nets, p, o) for p, o in itertools.combinations(places, 2))


def in_order(rows):
    return tuple(sorted({tuple(sorted(row)) for row in rows}, key=lambda row: (len(row), row)))


def some_rows(pick, houses, most=4):
    """One to most sets of houses, none empty, as lists in any order."""
    sets = [list(row) for row in subsets(range(houses)) if row]
    rows = [pick.choice(sets) for _ in range(pick.randint(1, most))]
    return [pick.sample(row, len(row)) for row in rows]


def some_lots(seed, many, most_houses=5):
    pick = random.Random(seed)
    for _ in range(many):
        houses = pick.randint(1, most_houses)
        yield Lots(houses, some_rows(pick, houses), some_rows(pick, houses))


def crossing_lots(seed, many, most_houses=5):
    pick = random.Random(seed)
    while many > 0:
        houses = pick.randint(1, most_houses)
        heard = some_rows(pick, houses, 3)
        fits = [row for row in subsets(range(houses)) if row and all(set(row) & set(o) for o in heard)]
        many -= 1
        yield Lots(houses, pick.sample(fits, pick.randint(1, min(4, len(fits)))), heard)


def crosses(lots):
    return all(set(one) & set(other) for one in lots.asked for other in lots.heard)
