"""The forms of deeds."""

from silentlinks.amounts import is_number

PLACE = "place"
VALUE = "value"

# For the word of each deed what its numbers are: a place is counted from 0, a value is any number.
DEEDS = {
    "get": (PLACE,),
    "put": (PLACE, VALUE),
    "look": (),
    "tour": (VALUE,),
    "propose": (VALUE,),
    "add_if": (PLACE, VALUE, VALUE),
    "move": (PLACE,),
}


def is_deed(deed, word, many):
    """Whether deed, of any kind, is a tuple of this word and so many numbers."""
    if not isinstance(deed, tuple) or len(deed) != many + 1:
        return False
    return deed[0] == word and all([is_number(value) for value in deed[1:]])
