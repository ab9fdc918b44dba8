"""Claims: sets of places of a book."""

from silentlinks.amounts import house_of, is_number, is_row, merged, without
from silentlinks.books import Book, check_pattern_number
from silentlinks.errors import BadBook, BadPlaces, Foes, NotAPlace, OtherBook
from silentlinks.friends import first_foes, named_place, see_each_other, sights, stands_at
from silentlinks.nets import net_of
from silentlinks.parts import part


def place_row(book, places):
    """The places of a list or tuple, ascending, with the errors that Claim names for them."""
    if not is_row(places):
        raise BadPlaces(-1)
    found = {}
    for at, value in enumerate(places):
        pair = named_place(book, value)
        if pair is None or pair in found:
            raise BadPlaces(at)
        found[pair] = True
    for at, pair in enumerate(list(found)):
        if not stands_at(book, pair):
            raise NotAPlace(at)
    return tuple(sorted(found))


def all_places(book):
    """All places of a book, ascending."""
    rows = []
    for number, pattern in enumerate(book.patterns):
        for house in pattern.standing(book.houses):
            rows.append((number, house))
    return tuple(rows)


def check_book(value):
    """The value; BadBook() if it is no Book."""
    if not isinstance(value, Book):
        raise BadBook()
    return value


class Claim:
    """A book and a set of its places."""

    def __init__(self, book, places):
        self.book = check_book(book)
        self.places = place_row(book, places)

    def __len__(self):
        return len(self.places)

    def __iter__(self):
        return iter(self.places)

    def __contains__(self, x):
        if not isinstance(x, tuple) or len(x) != 2:
            return False
        return is_number(x[0]) and is_number(x[1]) and x in self.places

    def __eq__(self, other):
        return isinstance(other, Claim) and self.book == other.book and self.places == other.places

    def __add__(self, other):
        return Claim(self.book, merged(self.places, self.places_told(other)))

    def __sub__(self, other):
        return Claim(self.book, without(self.places, self.places_told(other)))

    def places_told(self, other):
        """The places of a Claim of an equal book, or those of a list or tuple."""
        if not isinstance(other, Claim):
            return place_row(self.book, other)
        if not self.book == other.book:
            raise OtherBook()
        return other.places

    @property
    def keepable(self):
        """Whether every two of the places are friends."""
        return self.foes() is None

    @property
    def full(self):
        """Whether the claim is keepable and has a place of each pattern."""
        told = {number: True for number, house in self.places}
        return len(told) == len(self.book) and self.keepable

    @classmethod
    def of(cls, book, house):
        """The claim of all places of this house."""
        check_book(book)
        house_of(book.houses, house)
        rows = []
        for number in range(len(book)):
            if stands_at(book, (number, house)):
                rows.append((number, house))
        return cls(book, rows)

    def houses_at(self, number):
        """The houses of the places in the pattern of this number, ascending."""
        check_pattern_number(len(self.book), number)
        return tuple([house for at, house in self.places if at == number])

    def foes(self):
        """The first pair of places that are foes, None if there is none."""
        return first_foes(self.book, self.places)

    def whole(self):
        """The claim with all places of the parts of its places."""
        found = {}
        for number, house in self.places:
            for x in part(net_of(self.book, number), house):
                found[(number, x)] = True
        return Claim(self.book, sorted(found))

    def is_greatest(self):
        """Whether the claim is keepable, and not with any further place."""
        if not self.keepable:
            return False
        known = sights(self.book, self.places)
        for further in sights(self.book, without(all_places(self.book), self.places)):
            if all([see_each_other(own, further) for own in known]):
                return False
        return True

    def kept(self):
        """The claim itself; Foes(first, other) if it is not keepable."""
        pair = self.foes()
        if pair is not None:
            raise Foes(pair[0], pair[1])
        return self
