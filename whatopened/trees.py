"""Trees: how the nodes of a house could lie."""

from whatopened.errors import BadFact, Ringed, UnlikeHouses
from whatopened.facts import is_fact
from whatopened.houses import must_be_folder, must_be_node


def ring(house, lying):
    """A tuple of folders each of which lies directly in the next one, round, or None."""
    for folder in house.folders:
        way = [folder]
        # A way may run into a ring of which its first folder is no part.
        while lying[way[-1]] is not None and lying[way[-1]] not in way:
            way.append(lying[way[-1]])
        if lying[way[-1]] == folder:
            return tuple(way)
    return None


class Tree:
    """A house with a folder directly over each node, or none."""

    def __init__(self, house, over):
        for node in over:
            must_be_node(house, node)
        for folder in over.values():
            must_be_folder(house, folder)
        lying = {node: over.get(node) for node in house.nodes}
        folders = ring(house, lying)
        if folders is not None:
            raise Ringed(folders)
        self.house = house
        self.lying = lying

    def over(self, node):
        """The folder in which a node lies directly, or None."""
        must_be_node(self.house, node)
        return self.lying[node]

    def above(self, node):
        """The tuple of all folders above a node, the nearest first."""
        folders = []
        folder = self.over(node)
        while folder is not None:
            folders.append(folder)
            folder = self.lying[folder]
        return tuple(folders)

    def below(self, folder):
        """The tuple of all nodes below a folder, in the order of nodes."""
        must_be_folder(self.house, folder)
        return tuple([node for node in self.house.nodes if folder in self.above(node)])

    def lies(self, node, folder):
        """Whether a node lies below a folder, at whatever depth."""
        folders = self.above(node)
        must_be_folder(self.house, folder)
        return folder in folders

    def moved(self, node, folder):
        """The tree in which a node, with all below it, lies directly in a folder, or at the very top."""
        must_be_node(self.house, node)
        over = {one: self.lying[one] for one in self.house.nodes if one != node and self.lying[one] is not None}
        if folder is not None:
            over[node] = folder
        return Tree(self.house, over)

    def holds(self, fact):
        """Whether a fact about nodes of the house holds."""
        if not is_fact(self.house, fact):
            raise BadFact(0)
        word, one, other = fact
        if word == "line":
            return other in self.above(one) or one in self.above(other)
        return (other in self.above(one)) == (word == "below")

    def keeps(self, facts):
        """Whether all of the facts hold."""
        if facts.house != self.house:
            raise UnlikeHouses()
        return all([self.holds(fact) for fact in facts.told()])

    def __eq__(self, other):
        return isinstance(other, Tree) and self.house == other.house and self.lying == other.lying
