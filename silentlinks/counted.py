"""How many falls and silent links books can bear that only count them."""

from silentlinks.amounts import check_number, house_count, house_set, without
from silentlinks.books import Book, fits_houses
from silentlinks.errors import BadPattern, BadSet, NotASplit
from silentlinks.patterns import Pattern


def spare_houses(houses, falls):
    """The number u of a count: the houses that are left beside half of all and the falls."""
    return houses - houses // 2 - falls


def check_counts(houses, falls):
    """BadHouses(), then BadNumber("falls")."""
    house_count(houses)
    check_number(falls, "falls", 1)


def counted_bound(houses, falls):
    """The least number of silent links that may leave a counted pattern without a majority."""
    check_counts(houses, falls)
    spare = spare_houses(houses, falls)
    return spare * (houses // 2) if spare >= 1 else 0


def is_counted(houses, pattern, falls, silents):
    """Whether at most so many houses fall, and so many links between the others are silent."""
    house_count(houses)
    if not fits_houses(houses, pattern):
        raise BadPattern(-1)
    check_number(falls, "falls", 1)
    check_number(silents, "silents", 0)
    return len(pattern.fallen) <= falls and len(pattern.plain().silent) <= silents


def counted_split(houses, falls):
    """The pattern that splits the houses, with as many silent links as the bound."""
    check_counts(houses, falls)
    if spare_houses(houses, falls) < 1:
        raise NotASplit()
    half = houses // 2
    left = houses - falls
    return Pattern(range_of(left, houses), Pattern.cut(range_of(half, left), range_of(0, half)))


def range_of(first, end):
    """The houses from first on and below end, ascending."""
    return tuple(range(first, end))


def counted_chain(houses, falls, chosen):
    """The chain of a set of houses, a tuple of Patterns."""
    check_counts(houses, falls)
    left = house_set(houses, chosen)
    if len(left) < 1 or len(left) > max(1, spare_houses(houses, falls)):
        raise BadSet(-1)
    rows = []
    while len(left) > falls:
        outside = without(range_of(0, houses), left)
        rows.append(Pattern(left[:falls], Pattern.cut(left[falls:], outside)))
        left = left[falls:]
    rows.append(Pattern(left))
    return tuple(rows)


def facing_split(houses, falls):
    """The pattern in which the first houses hear nothing of the last half, and all others fall."""
    first = range_of(0, spare_houses(houses, falls))
    last = range_of(houses - houses // 2, houses)
    return Pattern(without(range_of(0, houses), first + last), Pattern.cut(last, first))


def two_falls(houses, falls):
    """Patterns in which, in turn, all houses fall."""
    if falls >= houses:
        return [Pattern(range_of(0, houses))]
    return [Pattern(range_of(0, falls)), Pattern(range_of(falls, houses))]


def counted_refusal(houses, falls, silents):
    """A Book of counted patterns without a full claim, None if silents is below the bound."""
    bound = counted_bound(houses, falls)
    if check_number(silents, "silents", 0) < bound:
        return None
    spare = spare_houses(houses, falls)
    if spare < 1:
        return Book(houses, two_falls(houses, falls))
    half = houses // 2
    rows = [counted_split(houses, falls), facing_split(houses, falls)]
    rows.extend(counted_chain(houses, falls, range_of(half, half + spare)))
    rows.extend(counted_chain(houses, falls, range_of(0, spare)))
    return Book(houses, rows)
