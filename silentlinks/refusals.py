"""Refusals: trees that show that a book has no full claim."""

from silentlinks.amounts import is_below
from silentlinks.choices import first_foe, full_claim, part_groups
from silentlinks.friends import friend_table, part_places


def refusal(book):
    """The tree that the search walks through, None if the book has a full claim."""
    if full_claim(book) is not None:
        return None
    return search_tree(friend_table(book), part_groups(book), [])


def search_tree(table, groups, chosen):
    """The tree of the search behind these chosen parts of the first patterns."""
    number = len(chosen)
    branches = []
    for at in groups[number]:
        foe = first_foe(table, chosen, at)
        if foe is None:
            branches.append(search_tree(table, groups, chosen + [at]))
        else:
            branches.append((foe, number))
    return (number, tuple(branches))


def is_knot(groups, tree):
    """Whether tree, of any kind, has a pattern number and a branch for each of its parts."""
    if not isinstance(tree, tuple) or len(tree) != 2:
        return False
    if not is_below(tree[0], len(groups)) or not isinstance(tree[1], tuple):
        return False
    return len(tree[1]) == len(groups[tree[0]])


def is_right_leaf(table, tree, way):
    """Whether tree, of any kind, is a right leaf behind this way."""
    if not isinstance(tree, tuple) or len(tree) != 2:
        return False
    if not is_below(tree[0], None) or not is_below(tree[1], None) or tree[0] == tree[1]:
        return False
    return tree[0] in way and tree[1] in way and not table[way[tree[0]]][way[tree[1]]]


def lengthened(way, number, at):
    """The way with the part at chosen for the pattern of this number."""
    longer = {key: way[key] for key in way}
    longer[number] = at
    return longer


def branches_behind(groups, knot, way):
    """The branches of a knot, each with the way to it, the last one first."""
    number, branches = knot
    rows = [(branch, lengthened(way, number, at)) for branch, at in zip(branches, groups[number])]
    return rows[::-1]


# A way may name a pattern again and again, so trees may be deeper than calls can be nested:
# the following functions keep a list of the trees that are left, the next one last.


def is_refusal(book, tree):
    """Whether tree, of any kind, is a refusal of the book."""
    table = friend_table(book)
    groups = part_groups(book)
    left = [(tree, {})]
    while len(left) > 0:
        here, way = left.pop()
        if is_knot(groups, here):
            left.extend(branches_behind(groups, here, way))
        elif not is_right_leaf(table, here, way):
            return False
    return True


def leaves(book, tree):
    """For each leaf of a refusal, from left to right, the two places that are foes."""
    rows = part_places(book)
    groups = part_groups(book)
    found = []
    left = [(tree, {})]
    while len(left) > 0:
        here, way = left.pop()
        if is_knot(groups, here):
            left.extend(branches_behind(groups, here, way))
        else:
            found.append(tuple([(number, rows[way[number]][1][0]) for number in here]))
    return tuple(found)


def size_of(tree):
    """How many leaves a refusal has."""
    many = 0
    left = [tree]
    while len(left) > 0:
        here = left.pop()
        if isinstance(here[1], tuple):
            left.extend(here[1])
        else:
            many += 1
    return many
