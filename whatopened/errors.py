"""The errors of the package: each one keeps what it was made with."""


class HouseError(ValueError):
    """Something that the package was passed is not as it must be."""


class BadHouse(HouseError):
    """The thing at this index of a house to be is no name, or stood before."""

    def __init__(self, index):
        self.index = index


class NoNode(HouseError):
    """This is no node of the house."""

    def __init__(self, node):
        self.node = node


class NoFolder(HouseError):
    """This is no folder of the house."""

    def __init__(self, folder):
        self.folder = folder


class NoThing(HouseError):
    """This is no thing of the house."""

    def __init__(self, thing):
        self.thing = thing


class Ringed(HouseError):
    """Each of these folders would lie in the next one, the last one in the first one."""

    def __init__(self, folders):
        self.folders = folders


class BadFact(HouseError):
    """The thing at this index is no fact about the nodes of the house."""

    def __init__(self, index):
        self.index = index


class BadIndex(HouseError):
    """This is no index of a fact, or stood before."""

    def __init__(self, thing):
        self.thing = thing


class UnlikeHouses(HouseError):
    """Two things that should tell of one house tell of unlike houses."""


class Unfit(HouseError):
    """No tree fits the facts, as this topless group shows."""

    def __init__(self, nodes):
        self.nodes = nodes


class BadPair(HouseError):
    """The thing at this index is no pair of a node and another node, a folder."""

    def __init__(self, index):
        self.index = index


class NoSuch(HouseError):
    """No tree that fits has this number."""

    def __init__(self, number):
        self.number = number


class Misfit(HouseError):
    """The tree does not fit the facts."""


class BadName(HouseError):
    """This is no name."""

    def __init__(self, name):
        self.name = name


class Taken(HouseError):
    """A link has or had this name."""

    def __init__(self, name):
        self.name = name


class NoLink(HouseError):
    """No link of this name stands."""

    def __init__(self, name):
        self.name = name


class BadVerbs(HouseError):
    """This is no list of one or more different names."""

    def __init__(self, verbs):
        self.verbs = verbs


class BadDay(HouseError):
    """This is no day."""

    def __init__(self, day):
        self.day = day


class BadAnswer(HouseError):
    """This is no truth value."""

    def __init__(self, answer):
        self.answer = answer


class Wider(HouseError):
    """The link of this name would let more than the one from which it is made."""

    def __init__(self, name):
        self.name = name


class NotLet(HouseError):
    """The link of this name opened, though it does not let what was tried."""

    def __init__(self, name):
        self.name = name


class Quarrel(HouseError):
    """No tree would fit behind this deed, as this topless group shows."""

    def __init__(self, nodes):
        self.nodes = nodes


class BadDeed(HouseError):
    """This is no deed."""

    def __init__(self, deed):
        self.deed = deed


class BadWish(HouseError):
    """The thing at this index is no wish."""

    def __init__(self, index):
        self.index = index


class Held(HouseError):
    """A wish is watched under this name."""

    def __init__(self, name):
        self.name = name


class NotHeld(HouseError):
    """No wish is watched under this name."""

    def __init__(self, name):
        self.name = name


class NoDeed(HouseError):
    """There is no deed to take back, or to do again."""


class BadText(HouseError):
    """The line with this number, from 1 on, cannot stand there."""

    def __init__(self, line):
        self.line = line
