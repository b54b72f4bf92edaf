"""Facts: what is told of the tree of a house."""

from whatopened.errors import BadFact, BadIndex
from whatopened.kinds import is_integer, is_list

WORDS = ("below", "not", "line")


def is_fact(house, thing):
    """Whether any object is a fact about nodes of the house."""
    if not is_list(thing) or len(thing) != 3:
        return False
    word, one, other = thing
    if word not in WORDS or one not in house or other not in house:
        return False
    return one != other and (word == "line" or other in house.folders)


def wrong_fact(house, facts):
    """The index for BadFact: 0 for no list, None if each thing in facts is a fact."""
    if not is_list(facts):
        return 0
    for at, thing in enumerate(facts):
        if not is_fact(house, thing):
            return at
    return None


def as_told(house, fact):
    """The fact as a tuple, the nodes of a line in the order of the house."""
    word, one, other = fact
    if word != "line":
        return (word, one, other)
    # The operators of Facts come here: what they call has no name that an object of the package keeps.
    first, second = [node for node in house.nodes if node in (one, other)]
    return (word, first, second)


def each_once(house, facts):
    """The facts as they are told, each once, in the order in which they first come."""
    rows = []
    for fact in facts:
        row = as_told(house, fact)
        if row not in rows:
            rows.append(row)
    return tuple(rows)


def against(house, fact):
    """The facts that hold together in a tree exactly if the fact does not."""
    if not is_fact(house, fact):
        raise BadFact(0)
    word, one, other = as_told(house, fact)
    if word == "below":
        return [("not", one, other)]
    if word == "not":
        return [("below", one, other)]
    return [("not", node, folder) for node, folder in ((one, other), (other, one)) if folder in house.folders]


class Facts:
    """Facts about a house, each once, in the order in which they were first told."""

    def __init__(self, house, facts=()):
        at = wrong_fact(house, facts)
        if at is not None:
            raise BadFact(at)
        self.house = house
        self.rows = each_once(house, facts)

    def told(self):
        """The list of the facts, as tuples."""
        return list(self.rows)

    def without(self, indexes):
        """The facts whose indexes in told() are not listed."""
        for at, thing in enumerate(indexes):
            if not is_integer(thing) or not 0 <= thing < len(self.rows) or thing in indexes[:at]:
                raise BadIndex(thing)
        return Facts(self.house, [row for at, row in enumerate(self.rows) if at not in indexes])

    def __add__(self, other):
        # By itself first, so that an error tells the index in what is added.
        more = Facts(self.house, other)
        return Facts(self.house, [*self.rows, *more.rows])

    def __len__(self):
        return len(self.rows)

    def __contains__(self, x):
        return is_fact(self.house, x) and as_told(self.house, x) in self.rows

    def __iter__(self):
        return iter(self.rows)

    def __eq__(self, other):
        return isinstance(other, Facts) and self.house == other.house and self.rows == other.rows
