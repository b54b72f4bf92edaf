"""Houses: the folders and the things of a tree that nobody shows."""

from whatopened.errors import BadHouse, NoFolder, NoNode, NoThing
from whatopened.kinds import is_list, is_name


def wrong_name(things):
    """The index of the first thing that is no name or stood before, or None."""
    for at, thing in enumerate(things):
        if not is_name(thing) or thing in things[:at]:
            return at
    return None


def wrong_part(folders, things):
    """The index for BadHouse, or None if a house can be made of these."""
    if not is_list(folders) or len(folders) == 0:
        return 0
    if is_list(things):
        return wrong_name([*folders, *things])
    # A wrong folder is told ahead of things that are no list.
    at = wrong_name(folders)
    return len(folders) if at is None else at


class House:
    """Folders and things, in their order; it does not tell how they lie."""

    def __init__(self, folders, things=()):
        at = wrong_part(folders, things)
        if at is not None:
            raise BadHouse(at)
        self.folders = tuple(folders)
        self.things = tuple(things)
        self.nodes = self.folders + self.things

    def __len__(self):
        return len(self.nodes)

    def __contains__(self, x):
        return x in self.nodes

    def __iter__(self):
        return iter(self.nodes)

    def __eq__(self, other):
        return isinstance(other, House) and self.folders == other.folders and self.things == other.things


def must_be_node(house, thing):
    """Raises NoNode for any object that is no node."""
    if thing not in house:
        raise NoNode(thing)


def must_be_folder(house, thing):
    """Raises NoFolder for any object that is no folder."""
    if thing not in house.folders:
        raise NoFolder(thing)


def must_be_thing(house, thing):
    """Raises NoThing for any object that is no thing of the house."""
    if thing not in house.things:
        raise NoThing(thing)
