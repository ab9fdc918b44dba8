"""Refusals: points [101] and [102], and silentlinks/refusals.py."""

import itertools
import random
import unittest

from silentlinks.books import Book
from silentlinks.choices import full_claim
from silentlinks.patterns import Pattern
from silentlinks.refusals import is_refusal, leaves, refusal, size_of
from support import NO_NUMBERS, LinksCase, friends_by, reaches_of, some_books

ALL_FALLEN = Book(2, [Pattern(), Pattern([0, 1])])
# Pattern 0 has the parts (0,) and (1,); each is a foe of the one part of another pattern.
BOOK = Book(2, [Pattern((), [(1, 0)]), Pattern([1]), Pattern([0])])
TREE = (0, ((2, ((0, 2),)), (1, ((0, 1),))))


def parts_of(book):
    return [sorted({net.part(b) for b in net.alive}) for net in reaches_of(book)]


def search_tree(book):
    """The words of [102]."""
    nets, parts = reaches_of(book), parts_of(book)

    def grow(chosen):
        j = len(chosen)
        if j == len(book):
            raise LookupError
        branches = []
        for part in parts[j]:
            foes = [i for i, own in enumerate(chosen) if not friends_by(nets, (i, own[0]), (j, part[0]))]
            branches.append((foes[0], j) if foes else grow(chosen + [part]))
        return (j, tuple(branches))

    try:
        return grow([])
    except LookupError:
        return None


def leaves_by(book, tree, way=None):
    parts = parts_of(book)
    way = way or {}
    if isinstance(tree[1], tuple):
        for k, branch in enumerate(tree[1]):
            yield from leaves_by(book, branch, {**way, tree[0]: parts[tree[0]][k]})
    else:
        yield tuple((i, way[i][0]) for i in tree)


def some_tree(pick, book, way, deep):
    """A refusal that names the patterns in some order, some again; None if none is found that deep."""
    nets, parts = reaches_of(book), parts_of(book)
    for i, j in itertools.permutations(way, 2):
        if not friends_by(nets, (i, way[i][0]), (j, way[j][0])):
            return (i, j)
    if deep == 0:
        return None
    again = [i for i in way if pick.random() < 0.3]
    left = [i for i in range(len(book)) if i not in way]
    number = pick.choice(again or left or list(way))
    branches = tuple(some_tree(pick, book, {**way, number: part}, deep - 1) for part in parts[number])
    return None if None in branches else (number, branches)


class OfTheSearch(LinksCase):
    def books(self):
        return some_books(101, 200) + [ALL_FALLEN, BOOK, Book.alone(3), Book(1, [Pattern([0])])]

    def test_words(self):
        """[102]"""
        many = 0
        for book in self.books():
            wanted = search_tree(book)
            self.same(refusal(book), wanted)
            many += wanted is not None
        self.assertGreater(many, 30)

    def test_either_or(self):
        """[101]: either a full claim or a refusal."""
        for book in self.books():
            tree = refusal(book)
            self.assertIs(tree is None, full_claim(book) is not None)
            if tree is not None:
                self.assertIs(is_refusal(book, tree), True)

    def test_leaves_and_size(self):
        for book in self.books():
            tree = refusal(book)
            if tree is not None:
                wanted = tuple(leaves_by(book, tree))
                self.same([leaves(book, tree), size_of(tree)], [wanted, len(wanted)])

    def test_all_fallen(self):
        for book, tree in ((ALL_FALLEN, (0, ((1, ()),))), (Book(1, [Pattern([0])]), (0, ()))):
            self.same([refusal(book), leaves(book, tree), size_of(tree)], [tree, (), 0])
            self.assertIs(is_refusal(book, tree), True)
        self.same([is_refusal(ALL_FALLEN, (1, ())), size_of((1, ()))], [True, 0])


class AnyTree(LinksCase):
    def test_other_orders(self):
        """[101]: the patterns may be named in any order, and again."""
        pick = random.Random(102)
        many = 0
        for book in some_books(103, 150):
            tree = some_tree(pick, book, {}, len(book) + 2)
            if tree is not None and isinstance(tree[1], tuple):
                many += 1
                self.assertIs(is_refusal(book, tree), True)
                wanted = tuple(leaves_by(book, tree))
                self.same([leaves(book, tree), size_of(tree)], [wanted, len(wanted)])
                self.assertIsNone(full_claim(book))
        self.assertGreater(many, 20)

    def test_shape(self):
        self.assertIs(is_refusal(BOOK, TREE), True)
        wrong = [
            None, 0, (), (0,), (0, 1, 2), "01", [0, ()], {0: ()}, (0, 1), (0, 0), (1, 2),
            list(TREE), (0, list(TREE[1])), (0, TREE[1][:1]), (0, TREE[1] + TREE[1][:1]), (0, TREE[1][::-1]), (0, ()),
            (0, ((2, ((2, 2),)), TREE[1][1])), (0, ((2, ((0, 1),)), TREE[1][1])), (0, ((2, ([0, 2],)), TREE[1][1])),
            (0, ((2, ((0, 2, 2),)), TREE[1][1])), (0, ((2, ((0, None),)), TREE[1][1])), (0, ((2, (None,)), TREE[1][1])),
            (3, TREE[1]), (-1, TREE[1]), (0, ((2, ((0, 3),)), TREE[1][1])), (0, ((2, ((-1, 2),)), TREE[1][1])),
            (0, ((2, (((0,), 2),)), TREE[1][1])), (0, (None, None)), (0, ((0, 2), (0, 1))), (None, ()), ("0", TREE[1]),
            (0, ((2, ((0, 2),)), (1, ((0, 1), (0, 1))))),
        ]
        for tree in wrong:
            self.assertIs(is_refusal(BOOK, tree), False, tree)
        for value in NO_NUMBERS:
            self.assertIs(is_refusal(BOOK, (value, TREE[1])), False)
            self.assertIs(is_refusal(BOOK, (0, ((2, ((value, 2),)), TREE[1][1]))), False)
            self.assertIs(is_refusal(BOOK, (0, ((2, ((0, value),)), TREE[1][1]))), False)

    def test_order_of_a_leaf(self):
        """The two patterns of a leaf may stand in any order."""
        tree = (0, ((2, ((2, 0),)), (1, ((1, 0),))))
        self.same([is_refusal(BOOK, tree), leaves(BOOK, tree)], [True, (((2, 1), (0, 0)), ((1, 0), (0, 1)))])

    def test_named_on_the_way(self):
        """A leaf names patterns that the way to it names."""
        foes = Book(2, [Pattern([1]), Pattern([0]), Pattern()])
        self.assertIs(is_refusal(foes, (0, ((1, ((0, 1),)),))), True)
        for leaf in ((0, 1), (1, 0), (1, 1), (1, 2), (2, 1)):
            self.assertIs(is_refusal(foes, (2, ((0, (leaf,)),))), False)

    def test_friends(self):
        """Friends are no leaf."""
        friends = Book(2, [Pattern(), Pattern([0]), Pattern([1])])
        self.assertIs(is_refusal(friends, (1, ((0, ((0, 1),)),))), False)
        self.assertIs(is_refusal(friends, (1, ((2, ((2, 1),)),))), True)

    def test_last_choice_counts(self):
        """[101]: if a way names a pattern more than once, its last choice counts."""
        inner = (0, ((2, ((0, 2),)), (1, ((0, 1),))))
        again = (0, (inner, inner))
        self.same([is_refusal(BOOK, again), size_of(again)], [True, 4])
        self.same(leaves(BOOK, again), leaves(BOOK, inner) * 2)
        # Behind the second branch of pattern 0 the first choice would be right, the last one is not.
        self.assertIs(is_refusal(BOOK, (0, ((0, ((2, ((0, 2),)), (2, ((0, 2),)))), (1, ((0, 1),))))), False)

    def test_deep(self):
        tree = (1, ((2, ((1, 2),)),))
        for _ in range(30000):
            tree = (1, (tree,))
        self.same([is_refusal(BOOK, tree), size_of(tree), leaves(BOOK, tree)], [True, 1, (((1, 0), (2, 1)),)])

    def test_equal_patterns(self):
        """Equal patterns told twice are unlike patterns."""
        book = Book(2, [Pattern([0]), Pattern([0]), Pattern([1])])
        self.same([refusal(book), is_refusal(book, (1, ((2, ((1, 2),)),)))], [(0, ((1, ((2, ((0, 2),)),)),)), True])


if __name__ == "__main__":
    unittest.main()
