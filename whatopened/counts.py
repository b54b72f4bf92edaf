"""Counts: how many trees fit facts, and which one has which number."""

from whatopened.errors import Misfit, NoSuch
from whatopened.fitting import bars_of, parts_of, steps_of, tops_of
from whatopened.kinds import is_integer
from whatopened.trees import Tree


def splits_of(steps, nodes):
    """All ways to split nodes in two tuples, the first node in the first one, so that no step goes across."""
    first, *others = parts_of(steps, nodes)
    halves = [first]
    for part in others:
        halves = halves + [[*half, *part] for half in halves]
    # In their order, so that the same nodes are known again however they were put together.
    ordered = [tuple([node for node in nodes if node in half]) for half in halves]
    return [(half, tuple([node for node in nodes if node not in half])) for half in ordered]


class Count:
    """Counts the trees that fit facts, also those alone whose rows begin in a certain way."""

    def __init__(self, facts):
        self.nodes = facts.house.nodes
        self.steps = steps_of(facts)
        self.bars = bars_of(facts)
        self.begun = {}
        self.splits = {}
        self.known = {}

    def many(self, row):
        """The number of trees that fit and whose rows begin with row."""
        self.begun = {node: folder for node, folder in zip(self.nodes, row)}
        return self.ways(self.nodes, None)

    def ways(self, nodes, folder):
        """In how many ways the nodes can lie, some directly in the folder (None: at the very top), all others below."""
        if not nodes:
            return 1
        # What is known holds for all rows that begin alike for these nodes.
        key = (nodes, folder, tuple([self.begun[node] for node in nodes if node in self.begun]))
        if key not in self.known:
            halves = self.halves(nodes)
            self.known[key] = sum([self.topped(half, folder) * self.ways(rest, folder) for half, rest in halves])
        return self.known[key]

    def halves(self, nodes):
        """What splits_of tells of the nodes; it is the same for all rows."""
        if nodes not in self.splits:
            self.splits[nodes] = splits_of(self.steps, nodes)
        return list(self.splits[nodes])

    def topped(self, nodes, folder):
        """In how many ways one of the nodes can lie directly in the folder, and all others below that one."""
        tops = [top for top in tops_of(self.bars, nodes) if self.begun.get(top, folder) == folder]
        return sum([self.ways(tuple([node for node in nodes if node != top]), top) for top in tops])


def how_many(facts):
    """The number of trees that fit."""
    return Count(facts).many([])


def in_order(house):
    """What can lie directly over a node, in the order of rows."""
    return (None, *house.folders)


def next_over(count, row, k, folders):
    """What stands behind row in number k of the rows that begin with it and one of the folders; its number then."""
    many = count.many([*row, folders[0]])
    if k < many:
        return (folders[0], k)
    return next_over(count, row, k - many, folders[1:])


def tree_number(facts, k):
    """The tree with number k, from 0 on, among those that fit."""
    count = Count(facts)
    if not is_integer(k) or not 0 <= k < count.many([]):
        raise NoSuch(k)
    row = []
    left = k
    for node in facts.house.nodes:
        folder, left = next_over(count, row, left, in_order(facts.house))
        row.append(folder)
    return Tree(facts.house, {node: folder for node, folder in zip(facts.house.nodes, row) if folder is not None})


def number_of(facts, tree):
    """The number of a tree among those that fit."""
    # keeps raises UnlikeHouses.
    if not tree.keeps(facts):
        raise Misfit()
    count = Count(facts)
    folders = in_order(facts.house)
    row = []
    ahead = 0
    for node in facts.house.nodes:
        at = folders.index(tree.over(node))
        ahead += sum([count.many([*row, folder]) for folder in folders[:at]])
        row.append(tree.over(node))
    return ahead
