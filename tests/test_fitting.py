"""What fits: [9], and the conventions of [3] for it."""

import unittest
from itertools import combinations, permutations

from anything import all_facts, any_objects
from looking import FULL, LARGER, SMALL, Looking, drawn, is_group, trees_of
from whatopened.facts import Facts
from whatopened.fitting import is_topless, topless, tree_for
from whatopened.houses import House
from whatopened.trees import Tree

HOUSE = House(["c", "a", "b"], ["u", "t"])


class Fitting(Looking):
    def decided(self, house, rows):
        """Just one of both is told, and what is told is right; whether a tree fits."""
        facts = Facts(house, rows)
        tree, nodes = tree_for(facts), topless(facts)
        self.assertEqual([tree, nodes].count(None), 1)
        self.assertEqual(facts, Facts(house, rows))
        if tree is None:
            self.group(house, rows, nodes)
            self.assertIs(is_topless(facts, nodes), True)
            return False
        self.fits(house, rows, tree)
        self.assertIs(tree.keeps(facts), True)
        return True


class WhetherATreeFits(Fitting):
    def test_no_facts(self):
        for house in (*SMALL, *LARGER, *FULL):
            self.assertIs(self.decided(house, []), True)

    def test_one_node(self):
        self.assertEqual(tree_for(Facts(House(["a"]))), Tree(House(["a"]), {}))
        self.assertIs(topless(Facts(House(["a"]))), None)

    def test_facts_that_leave_one_tree(self):
        house = House(["c", "a", "b"], ["t"])
        rows = [("below", "t", "c"), ("below", "c", "b"), ("below", "b", "a")]
        self.assertEqual(tree_for(Facts(house, rows)), Tree(house, {"t": "c", "c": "b", "b": "a"}))

    def test_two_folders_over_one_thing_stand_in_one_line(self):
        rows = [("below", "t", "a"), ("below", "t", "b")]
        self.assertIs(self.decided(HOUSE, rows), True)
        self.assertIs(self.decided(HOUSE, [*rows, ("not", "a", "b")]), True)
        self.assertIs(self.decided(HOUSE, [*rows, ("not", "a", "b"), ("not", "b", "a")]), False)
        self.assertEqual(topless(Facts(HOUSE, [*rows, ("not", "a", "b"), ("not", "b", "a")])), ("a", "b", "t"))

    def test_a_line_of_two_things_fits_no_tree(self):
        facts = Facts(HOUSE, [("line", "t", "u")])
        self.assertIs(tree_for(facts), None)
        self.assertEqual(topless(facts), ("u", "t"))

    def test_facts_that_no_tree_fits(self):
        groups = {
            ("a", "b"): [("below", "a", "b"), ("below", "b", "a")],
            ("c", "t"): [("below", "t", "c"), ("not", "t", "c")],
            ("c", "b"): [("line", "b", "c"), ("not", "b", "c"), ("not", "c", "b")],
            ("c", "a", "b"): [("below", "a", "b"), ("below", "b", "c"), ("below", "c", "a")],
            ("b", "t"): [("line", "b", "t"), ("not", "t", "b"), ("below", "b", "a")],
        }
        for nodes, rows in groups.items():
            self.assertIs(self.decided(HOUSE, rows), False)
            self.assertEqual(topless(Facts(HOUSE, rows)), nodes)

    def test_a_group_below_a_folder(self):
        rows = [("below", "t", "c"), ("below", "u", "c"), ("below", "a", "c"), ("below", "b", "c")]
        inner = [("below", "t", "a"), ("line", "t", "b"), ("not", "a", "b"), ("not", "b", "a")]
        self.assertIs(self.decided(HOUSE, rows + inner[:3]), True)
        self.assertIs(self.decided(HOUSE, rows + inner), False)

    def test_all_lists_of_facts_about_three_nodes(self):
        house = House(["b", "a"], ["t"])
        every = Facts(house, all_facts(house)).told()
        self.assertEqual(len(every), 11)
        for size in range(len(every) + 1):
            for rows in combinations(every, size):
                self.assertIs(self.decided(house, rows), bool(trees_of(house).fitting(rows)))

    def test_drawn_facts_beside_all_trees(self):
        for house in (*SMALL, *LARGER):
            answers = [self.decided(house, rows) for rows in drawn(house, 9, 120, 9)]
            wanted = [bool(trees_of(house).fitting(rows)) for rows in drawn(house, 9, 120, 9)]
            self.assertEqual(answers, wanted)
            self.assertIn(True, answers)

    def test_just_one_of_both_is_none(self):
        for house in FULL:
            answers = [self.decided(house, rows) for rows in drawn(house, 99, 600, 16)]
            self.assertGreater(answers.count(True), 50)
            self.assertGreater(answers.count(False), 50)

    def test_the_same_call_tells_the_same(self):
        for house in FULL:
            for rows in drawn(house, 999, 30, 12):
                self.same_again(house, rows, tree_for)
                self.same_again(house, rows, topless)

    def test_arguments_by_name(self):
        rows = [("line", "t", "u")]
        self.assertEqual(topless(facts=Facts(HOUSE, rows)), ("u", "t"))
        self.assertIs(tree_for(facts=Facts(HOUSE, rows)), None)
        self.assertIs(is_topless(nodes=["t", "u"], facts=Facts(HOUSE, rows)), True)


class WhatIsAToplessGroup(Fitting):
    RING = [("below", "a", "b"), ("below", "b", "c"), ("below", "c", "a"), ("below", "t", "a"), ("line", "u", "c")]

    def is_one(self, rows, nodes, answer):
        """The same answer is told of the nodes in any order, as a list and as a tuple."""
        facts = Facts(HOUSE, rows)
        for order in permutations(nodes):
            self.assertIs(is_topless(facts, order), answer)
            self.assertIs(is_topless(facts, list(order)), answer)
        self.assertEqual(facts, Facts(HOUSE, rows))

    def test_in_any_order_and_also_with_more_than_need_be(self):
        for more in ([], ["t"], ["u"], ["t", "u"]):
            self.is_one(self.RING, ["a", "b", "c", *more], True)

    def test_a_folder_that_is_not_barred(self):
        for nodes in (["a", "b"], ["b", "c"], ["a", "c", "u"], ["a", "b", "t"]):
            self.is_one(self.RING, nodes, False)

    def test_what_is_not_joined(self):
        rows = [("below", "a", "b"), ("below", "b", "a"), ("not", "c", "a"), ("not", "a", "c"), ("line", "u", "t")]
        self.is_one(rows, ["a", "b"], True)
        self.is_one(rows, ["t", "u"], True)
        self.is_one(rows, ["a", "c"], False)
        self.is_one(rows, ["a", "b", "c"], False)
        self.is_one(rows, ["a", "b", "t", "u"], False)

    def test_steps_go_between_nodes_of_the_list_only(self):
        rows = [("below", "t", "a"), ("below", "t", "b"), ("not", "a", "b"), ("not", "b", "a")]
        self.is_one(rows, ["a", "b", "t"], True)
        self.is_one(rows, ["a", "b"], False)

    def test_nodes_outside_of_the_list_bar_nothing(self):
        rows = [("line", "a", "b"), ("not", "u", "a"), ("below", "b", "c"), ("not", "a", "b")]
        self.is_one(rows, ["a", "b"], False)
        self.is_one([*rows, ("below", "a", "c"), ("not", "c", "a")], ["a", "b"], False)
        self.is_one([*rows, ("not", "b", "a")], ["a", "b"], True)

    def test_a_not_joins_nothing(self):
        self.is_one([("not", "a", "b"), ("not", "b", "a")], ["a", "b"], False)

    def test_a_below_bars_only_the_folder_that_lies_below(self):
        self.is_one([("below", "a", "b"), ("not", "b", "a")], ["a", "b"], False)
        self.is_one([("below", "a", "b"), ("not", "a", "b")], ["a", "b"], True)
        self.is_one([("below", "t", "b"), ("not", "t", "b")], ["t", "b"], True)
        self.is_one([("below", "t", "b"), ("not", "u", "b")], ["t", "b"], False)

    def test_a_node_twice(self):
        facts = Facts(HOUSE, self.RING)
        for nodes in (["a", "b", "c", "a"], ["t", "a", "b", "c", "t"], ("a", "a"), ["b", "b", "b"]):
            self.assertIs(is_topless(facts, nodes), False)

    def test_one_node_and_none(self):
        facts = Facts(House(["a", "b"], ["t"]), [("below", "a", "b"), ("below", "b", "a"), ("not", "t", "a")])
        for nodes in ([], (), ["a"], ("b",), ["t"], ("t",)):
            self.assertIs(is_topless(facts, nodes), False)

    def test_strange_things_in_the_list(self):
        facts = Facts(HOUSE, self.RING)
        for thing in [*any_objects(), "x", ("a",), ["a"], "ab", HOUSE, facts]:
            for nodes in (["a", "b", "c", thing], (thing, "a", "b", "c"), [thing, thing], [thing], ["a", thing]):
                self.assertIs(is_topless(facts, nodes), False)

    def test_other_objects(self):
        facts = Facts(House(["a", "b"]), [("below", "a", "b"), ("below", "b", "a")])
        self.assertIs(is_topless(facts, ["a", "b"]), True)
        others = [*any_objects(), "ab", "a", {"a": 1, "b": 2}, facts.house, facts, Tree(facts.house, {}), House(["a", "b"])]
        for thing in others:
            self.assertIs(is_topless(facts, thing), False)

    def test_no_facts(self):
        for size in range(6):
            for nodes in combinations(HOUSE.nodes, size):
                self.assertIs(is_topless(Facts(HOUSE), nodes), False)

    def test_all_lists_of_nodes_of_drawn_facts(self):
        for house in (HOUSE, *LARGER):
            lists = [nodes for size in range(len(house) + 1) for nodes in combinations(house.nodes, size)]
            answers = []
            for rows in drawn(house, 5, 60, 14):
                for nodes in lists:
                    answers.append(is_group(house, rows, nodes))
                    self.assertIs(is_topless(Facts(house, rows), nodes[::-1]), answers[-1])
            self.assertGreater(answers.count(True), 20)


if __name__ == "__main__":
    unittest.main()
