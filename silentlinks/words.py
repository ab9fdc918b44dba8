"""The words of programs, their names and the ends of their numbers."""

RESERVED = (
    "machine", "cells", "rows", "grids", "lots", "part", "begin", "hear", "tick", "if", "else", "each", "first",
    "needs", "do", "answer", "and", "max", "min", "their", "me", "many", "from", "deed", "given",
)
LETTERS = "abcdefghijklmnopqrstuvwxyz"
MOST_LETTERS = 12
END = 1000000000000


def is_name(text):
    """Whether the text can be a name."""
    if len(text) < 1 or len(text) > MOST_LETTERS or text in RESERVED:
        return False
    return all([sign in LETTERS for sign in text])


def clip(number):
    """The number, or the end that it is beyond."""
    return max(-END, min(END, number))
