"""Fitting: a tree that fits facts, or a group of nodes without a top, which shows that there is none."""

from whatopened.errors import Unfit
from whatopened.kinds import is_list
from whatopened.trees import Tree


def steps_of(facts):
    """The dict from each node to the nodes to which a step goes from it: a below or a line of both is told."""
    steps = {node: [] for node in facts.house.nodes}
    for word, one, other in facts.told():
        if word != "not":
            steps[one].append(other)
            steps[other].append(one)
    return steps


def bars_of(facts):
    """The dict from each folder to the nodes each of which bars it in a list that has both."""
    bars = {folder: [] for folder in facts.house.folders}
    for word, one, other in facts.told():
        if word == "not":
            bars[other].append(one)
        if word == "below" and one in facts.house.folders:
            bars[one].append(other)
    return bars


def reached(steps, nodes):
    """Those of the nodes, in their order, to which one comes from the first one by steps between them."""
    found = []
    more = [nodes[0]]
    while more:
        found = found + more
        more = [node for node in nodes if node not in found and any([near in found for near in steps[node]])]
    return [node for node in nodes if node in found]


def parts_of(steps, nodes):
    """The nodes in lists, each in their order: from each node of a list one comes to just those of the list."""
    parts = []
    left = nodes
    while left:
        part = reached(steps, left)
        parts.append(part)
        left = [node for node in left if node not in part]
    return parts


def tops_of(bars, nodes):
    """Those of the nodes that may have all others of them below: folders that none bars; a single node always."""
    if len(nodes) == 1:
        return nodes
    return [node for node in nodes if node in bars and not any([one in bars[node] for one in nodes])]


def tree_or_group(facts):
    """A pair: the dict of a tree that fits, as Tree takes it, and None; or None and a topless group."""
    steps = steps_of(facts)
    bars = bars_of(facts)
    over = {}
    work = [(None, facts.house.nodes)]
    while work:
        folder, nodes = work.pop()
        # Nodes joined to each other lie in one tree, and it has a top: all but it are parted further below it.
        for part in parts_of(steps, nodes):
            tops = tops_of(bars, part)
            if not tops:
                return (None, tuple(part))
            # Any top will do: a part without one is a topless group, whatever was taken away ahead.
            if folder is not None:
                over[tops[0]] = folder
            work.append((tops[0], [node for node in part if node != tops[0]]))
    return (over, None)


def tree_for(facts):
    """A tree that fits, or None."""
    over, group = tree_or_group(facts)
    return Tree(facts.house, over) if group is None else None


def topless(facts):
    """A topless group, as a tuple of nodes in their order, or None."""
    over, group = tree_or_group(facts)
    return group


def is_topless(facts, nodes):
    """Whether any object is a topless group of the facts, in any order."""
    if not is_list(nodes) or len(nodes) < 2:
        return False
    for at, node in enumerate(nodes):
        if node not in facts.house or node in nodes[:at]:
            return False
    return len(reached(steps_of(facts), nodes)) == len(nodes) and not tops_of(bars_of(facts), nodes)


def must_fit(facts):
    """Raises Unfit if no tree fits."""
    group = topless(facts)
    if group is not None:
        raise Unfit(group)
