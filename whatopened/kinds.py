"""Kinds of values that the document names: lists, integers, names."""

LETTERS = "abcdefghijklmnopqrstuvwxyz"
LONGEST = 8


def is_list(thing):
    """Whether an object may stand where a list is expected: a tuple may, too."""
    return isinstance(thing, (list, tuple))


def is_integer(thing):
    """Whether an object is an integer: True and False are none."""
    return isinstance(thing, int) and not isinstance(thing, bool)


def is_name(thing):
    """Whether an object is a name: a string of one to eight letters a to z."""
    if not isinstance(thing, str) or not 1 <= len(thing) <= LONGEST:
        return False
    return all([letter in LETTERS for letter in thing])
