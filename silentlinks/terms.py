"""The expressions and tests of programs, read from words."""

from silentlinks.texts import number_in

SIGNS = ("+", "-", "max", "min")
TESTS = ("=", "!=", "<", "<=", ">", ">=")
WORDS = ("me", "many", "from", "deed", "given")
# For each kind of a place with numbers how many indexes it has.
INDEXES = {"cell": 0, "row": 1, "grid": 2}

# In this file names is a dict that gives for each declared name its kind, and loops a tuple of
# the loop names that stand where the words do. Each function gives None if the words are wrong.


def split_at(words, signs):
    """The pieces of words between those that are signs, and a list of these signs."""
    pieces = [[]]
    found = []
    for word in words:
        if word in signs:
            found.append(word)
            pieces.append([])
        else:
            pieces[-1].append(word)
    return (pieces, found)


def index_in(names, loops, text):
    """The term of an index."""
    number = number_in(text)
    if number is not None:
        return ("number", number, ())
    if text in loops:
        return ("loop", text, ())
    if text in ("me", "from"):
        return ("word", text, ())
    return ("cell", text, ()) if names.get(text) == "cell" else None


def place_in(names, loops, word):
    """The cell, row or grid term that a word writes."""
    pieces = word.split("[")
    kind = names.get(pieces[0])
    if INDEXES.get(kind) != len(pieces) - 1 or not all([piece.endswith("]") for piece in pieces[1:]]):
        return None
    indexes = tuple([index_in(names, loops, piece[:-1]) for piece in pieces[1:]])
    return None if None in indexes else (kind, pieces[0], indexes)


def their_in(names, loops, word):
    """The term that a word writes behind the word their."""
    place = place_in(names, loops, word)
    return None if place is None else ("their " + place[0], place[1], place[2])


def term_in(names, loops, words):
    """The term that words write."""
    if len(words) == 2 and words[0] == "their":
        return their_in(names, loops, words[1])
    if len(words) != 1:
        return None
    word = words[0]
    number = number_in(word)
    if number is not None:
        return ("number", number, ())
    if word in loops:
        return ("loop", word, ())
    return ("word", word, ()) if word in WORDS else place_in(names, loops, word)


def expr_in(names, loops, words):
    """The expression that words write."""
    pieces, signs = split_at(words, SIGNS)
    terms = [term_in(names, loops, piece) for piece in pieces]
    if None in terms:
        return None
    return (terms[0],) + tuple(zip(signs, terms[1:]))


def test_in(names, loops, words):
    """The test that words write."""
    pieces, signs = split_at(words, TESTS)
    exprs = [expr_in(names, loops, piece) for piece in pieces]
    if len(signs) != 1 or None in exprs:
        return None
    return (exprs[0], signs[0], exprs[1])


def cond_in(names, loops, words):
    """The tests that words write, with the word and between them."""
    pieces, signs = split_at(words, ("and",))
    tests = tuple([test_in(names, loops, piece) for piece in pieces])
    return None if None in tests else tests
