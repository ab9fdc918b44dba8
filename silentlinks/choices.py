"""Full claims, and the search for them."""

from silentlinks.errors import OtherBook, TooMany
from silentlinks.friends import friend_table, part_places
from silentlinks.greatest import claim_of_parts

MOST_FULL = 5000


def part_groups(book):
    """For each pattern of the book the positions of its parts in part_places, in order."""
    rows = part_places(book)
    return [[at for at, row in enumerate(rows) if row[0] == number] for number in range(len(book))]


def first_foe(table, chosen, at):
    """The index in chosen of the first foe of at, None if all are friends."""
    for k, other in enumerate(chosen):
        if not table[other][at]:
            return k
    return None


def full_ways(table, groups, chosen):
    """All choices of a position from each group, pairwise friends, that begin with chosen."""
    if len(chosen) == len(groups):
        yield chosen
    else:
        for at in groups[len(chosen)]:
            if first_foe(table, chosen, at) is None:
                longer = chosen + [at]
                yield from full_ways(table, groups, longer)


def full_choices(book):
    """All whole full claims in the order of the search."""
    rows = part_places(book)
    table = friend_table(book)
    groups = part_groups(book)
    for chosen in full_ways(table, groups, []):
        yield claim_of_parts(book, rows, chosen)


def full_claim(book):
    """The first whole full claim, None if the book has no full claim."""
    for claim in full_choices(book):
        return claim
    return None


def count_full(book):
    """The number of whole full claims."""
    table = friend_table(book)
    groups = part_groups(book)
    many = 0
    for _ in full_ways(table, groups, []):
        many += 1
        if many > MOST_FULL:
            raise TooMany("claims")
    return many


def check_claim(book, claim):
    """OtherBook() if the claim is of an unlike book, Foes if it is not keepable."""
    if not claim.book == book:
        raise OtherBook()
    claim.kept()


def goes_together(book, first, other):
    """Whether the places of two keepable claims together are pairwise friends."""
    check_claim(book, first)
    check_claim(book, other)
    return (first + other).keepable
