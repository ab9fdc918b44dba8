"""Critical books, and the links and houses that are dear to a book."""

from silentlinks.books import Book
from silentlinks.choices import full_claim
from silentlinks.errors import NoFullClaim
from silentlinks.patterns import Pattern


def has_full(book):
    """Whether the book has a full claim."""
    return full_claim(book) is not None


def has_full_of(book, numbers):
    """Whether the patterns of these numbers have a full claim; where nothing is left, there is one."""
    if len(numbers) == 0:
        return True
    return has_full(Book(book.houses, [book[number] for number in numbers]))


def critical(book):
    """The numbers of patterns that are a critical book, None if the book has a full claim."""
    if has_full(book):
        return None
    numbers = list(range(len(book)))
    for number in range(len(book)):
        left = [other for other in numbers if other != number]
        if not has_full_of(book, left):
            numbers = left
    return tuple(numbers)


def is_critical(book):
    """Whether the book has no full claim, but has one with any one of its patterns left out."""
    return critical(book) == tuple(range(len(book)))


def check_full(book, number):
    """The pattern of this number; BadPattern(number), then NoFullClaim()."""
    pattern = book[number]
    if not has_full(book):
        raise NoFullClaim()
    return pattern


def with_silent(book, number, link):
    """The book with this link silent, too, in the pattern of this number."""
    return book.replaced(number, book[number] | Pattern((), [link]))


def with_fallen(book, number, house):
    """The book with this house fallen, too, in the pattern of this number."""
    return book.replaced(number, book[number] | Pattern([house]))


def dear_links(book, number):
    """The links that are dear in the pattern of this number, ascending."""
    links = check_full(book, number).lasting(book.houses)
    return tuple([link for link in links if not has_full(with_silent(book, number, link))])


def dear_houses(book, number):
    """The houses that are dear in the pattern of this number, ascending."""
    houses = check_full(book, number).standing(book.houses)
    return tuple([house for house in houses if not has_full(with_fallen(book, number, house))])


def harden(book, number):
    """The book with those links silent in this pattern, taken one by one, that it can spare."""
    links = check_full(book, number).lasting(book.houses)
    made = Book(book.houses, book.patterns)
    for link in links:
        harder = with_silent(made, number, link)
        if has_full(harder):
            made = harder
    return made
