"""Trees counted: [15], and the conventions of [3] for it."""

import unittest

from anything import all_facts, any_objects, without_tops
from looking import LARGER, SMALL, Looking, drawn, trees_of
from whatopened.counts import how_many, number_of, tree_number
from whatopened.errors import Misfit, NoSuch, UnlikeHouses
from whatopened.facts import Facts
from whatopened.houses import House
from whatopened.trees import Tree

HOUSE = House(["b", "a"], ["t"])
UNFIT = Facts(HOUSE, [("below", "t", "a"), ("not", "t", "a")])


def row_of(tree):
    """What lies directly over the nodes, by the numbers that order the rows: the very top first, then the folders."""
    folders = (None, *tree.house.folders)
    return [folders.index(tree.over(node)) for node in tree.house.nodes]


class Counted(Looking):
    def counted(self, house, rows):
        """The number of trees that fit, each tree with its number, and that no others have one."""
        facts, trees = Facts(house, rows), trees_of(house)
        fitting = trees.fitting(rows)
        self.assertEqual(how_many(facts), len(fitting))
        # At most a few of many trees, the first one and the last one among them.
        numbers = sorted({0, len(fitting) - 1, *range(0, len(fitting), 1 + len(fitting) // 8)})
        for k in [number for number in numbers if 0 <= number < len(fitting)]:
            tree = trees.trees[fitting[k]]
            self.assertEqual(tree_number(facts, k), tree)
            self.assertEqual(number_of(facts, tree), k)
        for k in (-1, len(fitting), len(fitting) + 1):
            self.raised(NoSuch, "number", k, tree_number, facts, k)
        for tree in [trees.trees[at] for at in range(len(trees.trees)) if at not in fitting][:3]:
            with self.assertRaises(Misfit):
                number_of(facts, tree)
        self.assertEqual(facts, Facts(house, rows))


class HowManyTreesFit(Counted):
    def test_no_facts(self):
        # (n + 1) ** (n - 1) ways to lay n folders, and n + 1 ways for each thing.
        for house in (*SMALL, *LARGER):
            many = len(house.folders)
            wanted = (many + 1) ** (many - 1) * (many + 1) ** len(house.things)
            self.assertEqual(how_many(Facts(house)), wanted)
            self.counted(house, [])

    def test_one_node(self):
        facts = Facts(House(["a"]))
        self.assertEqual(how_many(facts), 1)
        self.assertIs(type(how_many(facts)), int)
        self.assertEqual(tree_number(facts, 0), Tree(House(["a"]), {}))
        self.assertEqual(number_of(facts, Tree(House(["a"]), {})), 0)

    def test_facts_that_no_tree_fits(self):
        self.assertEqual(how_many(UNFIT), 0)
        self.assertEqual(how_many(Facts(House(["a"], ["t", "u"]), [("line", "t", "u")])), 0)
        self.raised(NoSuch, "number", 0, tree_number, UNFIT, 0)
        with self.assertRaises(Misfit):
            number_of(UNFIT, Tree(HOUSE, {}))

    def test_each_fact_alone_beside_all_trees(self):
        for house in (*SMALL, LARGER[0]):
            for fact in all_facts(house):
                self.counted(house, [fact])

    def test_drawn_facts_beside_all_trees(self):
        for house in SMALL:
            for rows in drawn(house, 51, 50, 9):
                self.counted(house, rows)
        for house in LARGER:
            for rows in drawn(house, 52, 25, 9):
                self.counted(house, rows)

    def test_somewhat_beyond_the_limit(self):
        house = House(["a", "b", "c", "d", "e", "f"])
        facts = Facts(house, [("below", "a", "b")])
        tree = Tree(house, {"a": "f", "f": "b", "c": "a"})
        self.assertEqual(how_many(Facts(house)), 7 ** 5)
        self.assertEqual(tree_number(facts, number_of(facts, tree)), tree)


class TheOrderOfTrees(Counted):
    def test_the_trees_of_two_folders_and_a_thing(self):
        overs = [
            {}, {"t": "b"}, {"t": "a"}, {"a": "b"}, {"a": "b", "t": "b"}, {"a": "b", "t": "a"},
            {"b": "a"}, {"b": "a", "t": "b"}, {"b": "a", "t": "a"},
        ]
        for k, over in enumerate(overs):
            self.assertEqual(tree_number(Facts(HOUSE), k), Tree(HOUSE, over))
            self.assertEqual(number_of(Facts(HOUSE), Tree(HOUSE, over)), k)

    def test_numbers_count_the_trees_that_fit_only(self):
        facts = Facts(HOUSE, [("below", "t", "b")])
        overs = [{"t": "b"}, {"a": "b", "t": "b"}, {"a": "b", "t": "a"}, {"b": "a", "t": "b"}]
        self.assertEqual([tree_number(facts, k) for k in range(how_many(facts))], [Tree(HOUSE, over) for over in overs])

    def test_rows_ascend(self):
        for house in (House(["c", "a", "b"], ["t"]), House(["d", "c", "b", "a"])):
            for rows in ([], [("line", "a", "b")], [("not", "a", "b"), ("below", "c", "a")]):
                facts = Facts(house, rows)
                trees = [tree_number(facts, k) for k in range(how_many(facts))]
                told = [row_of(tree) for tree in trees]
                self.assertEqual(told, sorted(told))
                self.assertEqual(len({str(row) for row in told}), len(trees_of(house).fitting(rows)))
                for tree in trees:
                    self.fits(house, rows, tree)

    def test_the_same_call_tells_the_same(self):
        for rows in drawn(LARGER[0], 53, 10, 6):
            self.same_again(LARGER[0], rows, how_many)
        self.same_again(HOUSE, [("below", "t", "b")], lambda facts: tree_number(facts, 2))

    def test_arguments_by_name(self):
        facts = Facts(HOUSE)
        self.assertEqual(how_many(facts=facts), 9)
        self.assertEqual(tree_number(k=3, facts=facts), Tree(HOUSE, {"a": "b"}))
        self.assertEqual(number_of(tree=Tree(HOUSE, {"a": "b"}), facts=facts), 3)


class WhatHasNoNumber(Counted):
    def test_no_such_number(self):
        facts = Facts(HOUSE, [("below", "t", "b")])
        wrong = [thing for thing in any_objects() if not (type(thing) is int and 0 <= thing < 4)]
        for thing in [*wrong, -1, 4, 5, "0", [0], (0,), HOUSE, facts]:
            self.raised(NoSuch, "number", thing, tree_number, facts, thing)

    def test_true_and_false_are_no_numbers(self):
        for facts in (Facts(HOUSE), UNFIT):
            self.raised(NoSuch, "number", True, tree_number, facts, True)
            self.raised(NoSuch, "number", False, tree_number, facts, False)

    def test_a_tree_that_does_not_fit(self):
        facts = Facts(HOUSE, [("below", "t", "b")])
        for over in ({}, {"t": "a"}, {"a": "b"}, {"b": "a", "t": "a"}):
            with self.assertRaises(Misfit):
                number_of(facts, Tree(HOUSE, over))

    def test_a_tree_of_another_house(self):
        for house in (House(["a", "b"], ["t"]), House(["b", "a"], ["t", "u"]), House(["b", "a", "t"])):
            for over in ({}, {"t": "b"}):
                for facts in (Facts(HOUSE), UNFIT, Facts(HOUSE, [("not", "t", "b")])):
                    with self.assertRaises(UnlikeHouses):
                        number_of(facts, Tree(house, over))

    def test_an_equal_house_is_enough(self):
        self.assertEqual(number_of(Facts(HOUSE), Tree(House(("b", "a"), ("t",)), {"t": "a"})), 2)

    def test_a_call_that_raises_changes_nothing(self):
        facts, tree = Facts(HOUSE, [("below", "t", "b")]), Tree(HOUSE, {"t": "a"})
        with self.assertRaises(Misfit):
            number_of(facts, tree)
        self.raised(NoSuch, "number", 9, tree_number, facts, 9)
        self.assertEqual(facts, Facts(HOUSE, [("below", "t", "b")]))
        self.assertEqual(tree, Tree(HOUSE, {"t": "a"}))


if __name__ == "__main__":
    unittest.main()
