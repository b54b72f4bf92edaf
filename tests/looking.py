"""What the tests look through by themselves: all trees of a small house, papers, and lists of facts that are drawn."""

import unittest
from functools import lru_cache
from random import Random

from anything import all_facts, all_overs, holds_in, without_tops
from whatopened.errors import Unfit
from whatopened.facts import Facts
from whatopened.houses import House
from whatopened.trees import Tree

SMALL = (
    House(["a"]), House(["b", "a"]), House(["a"], ["t"]), House(["b", "a"], ["t"]), House(["a"], ["u", "t"]),
    House(["c", "a", "b"]), House(["b", "a"], ["t", "u"]), House(["c", "a", "b"], ["t"]), House(["d", "c", "b", "a"]),
)
LARGER = (House(["b", "a", "c"], ["u", "t"]), House(["b", "d", "a", "c"], ["t"]), House(["a", "b", "c", "d", "e"]))
FULL = (
    House(["a", "b", "c", "d", "e", "f", "g"]), House(["c", "b", "a", "d"], ["t", "v", "u"]),
    House(["a", "b"], ["t", "u", "v", "w", "x"]),
)


class AllTrees:
    """All trees of a house, in the order of their rows, and what holds in each."""

    def __init__(self, house):
        self.overs = all_overs(house)
        self.trees = [Tree(house, without_tops(over)) for over in self.overs]
        self.kept = [{fact for fact in all_facts(house) if holds_in(over, fact)} for over in self.overs]

    def fitting(self, rows):
        """The numbers of the trees that keep all of the facts."""
        rows = [tuple(row) for row in rows]
        return [at for at, kept in enumerate(self.kept) if kept.issuperset(rows)]

    def word(self, rows, facts):
        """The verdict that at least one of some facts holds in the trees that keep the rows."""
        answers = {any(fact in self.kept[at] for fact in facts) for at in self.fitting(rows)}
        return {(True,): "sure", (False,): "never", (False, True): "open"}[tuple(sorted(answers))]


@lru_cache(maxsize=None)
def looked_through(folders, things):
    return AllTrees(House(folders, things))


def trees_of(house):
    """All trees of a house; each house is looked through once only."""
    return looked_through(house.folders, house.things)


def drawn_over(house, draw):
    """The dict of a drawn tree: each folder lies in one that comes earlier in a drawn order, or at the very top."""
    order = draw.sample(house.folders, len(house.folders))
    over = {folder: draw.choice([None, *order[:at]]) for at, folder in enumerate(order)}
    return {node: over[node] if node in over else draw.choice([None, *order]) for node in house}


def drawn(house, seed, many, most):
    """So many lists of at most so many facts: in turn any ones, such as hold in one tree, and these with two others."""
    draw = Random(seed)
    every = all_facts(house)
    lists = []
    for turn in range(many):
        over = drawn_over(house, draw)
        true = [fact for fact in every if holds_in(over, fact)]
        if turn % 3 == 0:
            true = every
        if turn % 3 == 2:
            true = true + draw.sample(every, min(2, len(every)))
        lists.append(draw.sample(true, min(draw.randint(0, most), len(true))))
    return lists


def is_group(house, rows, nodes):
    """Whether nodes are a topless group of the facts, by the words of [9]."""
    if len(nodes) < 2 or len(set(nodes)) < len(nodes):
        return False
    steps = [{one, other} for word, one, other in rows if word != "not" and one in nodes and other in nodes]
    come = {nodes[0]}
    for turn in nodes:
        for step in steps:
            if step & come:
                come |= step
    return come == set(nodes) and all(is_barred(rows, nodes, node) for node in nodes if node in house.folders)


def is_barred(rows, nodes, folder):
    """Whether a folder of a list is barred, by the words of [9]."""
    others = [node for node in nodes if node != folder]
    return any(("below", folder, node) in rows or ("not", node, folder) in rows for node in others)


class Looking(unittest.TestCase):
    """Tests that look at papers and errors."""

    def raised(self, kind, attribute, thing, call, *parts, **named):
        """The call raises just this error, which keeps this very object."""
        with self.assertRaises(kind) as caught:
            call(*parts, **named)
        self.assertIs(type(caught.exception), kind)
        kept = getattr(caught.exception, attribute)
        self.assertIs(type(kept), type(thing))
        self.assertTrue(kept is thing or kept == thing)

    def group(self, house, rows, nodes):
        """A topless group of the facts is told, as a tuple of nodes in their order."""
        self.assertIs(type(nodes), tuple)
        self.assertEqual(nodes, tuple([node for node in house if node in nodes]))
        self.assertTrue(is_group(house, [tuple(row) for row in rows], nodes), (rows, nodes))

    def fits(self, house, rows, tree):
        """A tree of this house is told in which all of the facts hold."""
        self.assertIs(type(tree), Tree)
        self.assertEqual(tree.house, house)
        over = {node: tree.over(node) for node in house}
        self.assertEqual([row for row in rows if not holds_in(over, row)], [])

    def unfit(self, facts, call, *parts, **named):
        """The call raises Unfit with a topless group of the facts, and these stay as they are."""
        told = facts.told()
        with self.assertRaises(Unfit) as caught:
            call(*parts, **named)
        self.group(facts.house, told, caught.exception.nodes)
        self.assertEqual(facts.told(), told)

    def same_again(self, house, rows, call):
        """The same call tells the same, also of facts that are made anew, and changes none."""
        facts = Facts(house, rows)
        first = call(facts)
        self.assertEqual(call(facts), first)
        self.assertEqual(call(Facts(house, [list(row) for row in rows])), first)
        self.assertEqual(facts, Facts(house, rows))
