"""Greatest claims, and how many claims are keepable."""

from silentlinks.claims import Claim
from silentlinks.errors import TooMany
from silentlinks.friends import friend_table, part_places

MOST_CLAIMS = 600


def claim_of_parts(book, rows, chosen):
    """The claim of all places of the chosen members of part_places, which are given as rows."""
    places = []
    for at in chosen:
        number, houses = rows[at]
        for house in houses:
            places.append((number, house))
    return Claim(book, places)


def greatest_claims(book):
    """A list of all greatest claims, ascending by their places."""
    rows = part_places(book)
    claims = [claim_of_parts(book, rows, chosen) for chosen in greatest_choices(friend_table(book))]
    return sorted(claims, key=lambda claim: claim.places)


def greatest_choices(table):
    """All greatest sets of pairwise friends, as ascending tuples of positions in the table.

    The positions are taken in one by one. Each greatest set of those taken in so far lies in a
    greatest set of all, and no two of them in the same one, so they never become fewer: too
    many of them on the way are too many at the end.
    """
    found = [()]
    for at in range(len(table)):
        found = with_position(table, found, at)
        if len(found) > MOST_CLAIMS:
            raise TooMany("claims")
    return found


def with_position(table, found, at):
    """The greatest sets with the position at taken in, from those of the positions ahead of it."""
    later = {}
    for chosen in found:
        shared = tuple([x for x in chosen if table[at][x]])
        if len(shared) < len(chosen):
            later[chosen] = True
        if not has_further_friend(table, shared, at):
            later[shared + (at,)] = True
    return list(later)


def has_further_friend(table, shared, at):
    """Whether a position ahead of at, not in shared, is a friend of at and of all in shared."""
    for x in range(at):
        if table[at][x] and x not in shared and all([table[x][y] for y in shared]):
            return True
    return False


def count_keepable(book):
    """The number of keepable claims that are equal to their whole()."""
    table = friend_table(book)
    return count_choices(table, list(range(len(table))))


def count_choices(table, left):
    """How many sets of pairwise friends the positions left have, the empty set included."""
    many = 1
    for k, at in enumerate(left):
        many = many + count_choices(table, [x for x in left[k + 1:] if table[at][x]])
    return many


def spread(claim):
    """The claim with its places put in for all patterns to which their own pattern is harsher."""
    book = claim.book
    found = {}
    for place in claim.places:
        found[place] = True
        for number, pattern in enumerate(book.patterns):
            if book[place[0]].harsher(pattern):
                found[(number, place[1])] = True
    return Claim(book, sorted(found))


def extended(claim):
    """A greatest claim with all places of a keepable one."""
    start = claim.kept().whole()
    rows = part_places(claim.book)
    table = friend_table(claim.book)
    chosen = [at for at, row in enumerate(rows) if (row[0], row[1][0]) in start.places]
    for at in range(len(rows)):
        if at not in chosen and all([table[at][x] for x in chosen]):
            chosen.append(at)
    return claim_of_parts(claim.book, rows, chosen)
