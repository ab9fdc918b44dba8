"""Texts of patterns and books."""

from silentlinks.books import Book
from silentlinks.errors import BadLinks, BadSet, BadText, LinksError
from silentlinks.patterns import Pattern

DIGITS = "0123456789"
MOST_DIGITS = 30


def pattern_text(pattern):
    """The text of a pattern."""
    pieces = []
    if len(pattern.fallen) > 0:
        pieces.append("fall " + " ".join([str(house) for house in pattern.fallen]))
    if len(pattern.silent) > 0:
        pieces.append("silent " + " ".join([f"{a}>{b}" for a, b in pattern.silent]))
    return "clear" if len(pieces) == 0 else "; ".join(pieces)


def book_text(book):
    """The text of a book."""
    lines = [f"houses {book.houses}"]
    for pattern in book.patterns:
        lines.append("pattern " + pattern_text(pattern))
    return "\n".join(lines)


def words_in(line):
    """The words of a line; the blank alone separates them."""
    return [word for word in line.split(" ") if word != ""]


def counted_lines(text):
    """The pairs (number, line) of the lines of a text that are not skipped."""
    rows = []
    for at, line in enumerate(text.split("\n")):
        bare = line.strip(" ")
        if bare != "" and not bare.startswith("#"):
            rows.append((at + 1, line))
    return rows


def number_in(word):
    """The number that a word writes; None if it writes none."""
    if word == "" or len(word) > MOST_DIGITS:
        return None
    if not all([sign in DIGITS for sign in word]):
        return None
    if word.startswith("0") and word != "0":
        return None
    return int(word)


def link_in(word):
    """The two numbers that a word joins by the sign of a link; None if it does not."""
    ends = [number_in(end) for end in word.split(">")]
    if len(ends) != 2 or None in ends:
        return None
    return (ends[0], ends[1])


def fallen_in(words):
    """The numbers behind the word fall; None if the words are anything else."""
    if len(words) < 2 or words[0] != "fall":
        return None
    found = [number_in(word) for word in words[1:]]
    return None if None in found else found


def silent_in(words):
    """The links that one or more words write; None if a word writes none."""
    found = [link_in(word) for word in words]
    return None if len(found) == 0 or None in found else found


def pattern_rows(words):
    """The rows of numbers and links that a pattern's words write; None if they have not its form."""
    if words == ["clear"]:
        return ([], [])
    if "silent" not in words:
        fallen = fallen_in(words)
        return None if fallen is None else (fallen, [])
    at = words.index("silent")
    silent = silent_in(words[at + 1:])
    fallen = [] if at == 0 else fallen_ahead(words[:at])
    if fallen is None or silent is None:
        return None
    return (fallen, silent)


def fallen_ahead(words):
    """As fallen_in, of words the last of which ends in the semicolon ahead of the silent links."""
    last = words[-1]
    if not last.endswith(";"):
        return None
    return fallen_in(words[:-1] + [last[:-1]])


def pattern_of(words, line):
    """The Pattern that the words of this line write."""
    rows = pattern_rows(words)
    if rows is None:
        raise BadText(line)
    try:
        return Pattern(rows[0], rows[1])
    except (BadSet, BadLinks) as e:
        raise BadText(line) from e


def pattern_from(text):
    """The Pattern that a text writes."""
    return pattern_of(words_in(text), 1)


def houses_of(words, line):
    """The number in the first line of a book that counts."""
    if len(words) != 2 or words[0] != "houses":
        raise BadText(line)
    houses = number_in(words[1])
    if houses is None:
        raise BadText(line)
    return houses


def book_pattern_of(words, line):
    """The Pattern in a later line of a book that counts, so that it has a word."""
    if words[0] != "pattern":
        raise BadText(line)
    return pattern_of(words[1:], line)


def book_from(text):
    """The Book that a text writes."""
    rows = counted_lines(text)
    if len(rows) == 0:
        raise BadText(text.count("\n") + 1)
    first, head = rows[0]
    houses = houses_of(words_in(head), first)
    patterns = []
    for number, line in rows[1:]:
        patterns.append(book_pattern_of(words_in(line), number))
    last = rows[-1][0]
    try:
        return Book(houses, patterns)
    except LinksError as e:
        raise BadText(last) from e
