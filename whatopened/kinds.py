"""What the document names for all files: lists, integers, names, the order of choices, the fewest of them."""

LETTERS = "abcdefghijklmnopqrstuvwxyz"
LONGEST = 8


def is_list(thing):
    """Whether an object may stand where a list is expected: a tuple may, too."""
    return isinstance(thing, (list, tuple))


def is_integer(thing):
    """Whether an object is an integer: True and False are none."""
    return isinstance(thing, int) and not isinstance(thing, bool)


def is_name(thing):
    """Whether an object is a name: a string of one to eight letters a to z."""
    if not isinstance(thing, str) or not 1 <= len(thing) <= LONGEST:
        return False
    return all([letter in LETTERS for letter in thing])


def choices(many, length):
    """All ascending tuples of so many indexes below many, in the order of choices."""
    rows = [()]
    for step in range(length):
        rows = [(*row, at) for row in rows for at in range(many) if not row or at > row[-1]]
    return rows


def fewest(things, will_do):
    """All tuples of as few of the things as will do, in the order of choices; [] if none will.

    will_do is a function that tells of a tuple whether it will.
    """
    for many in range(len(things) + 1):
        rows = [tuple([things[at] for at in indexes]) for indexes in choices(len(things), many)]
        found = [row for row in rows if will_do(row)]
        if found:
            return found
    return []
