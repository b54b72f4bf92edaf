"""Trees: [6], [7], tree.keeps of [8], and the conventions of [3] for them."""

import unittest

from anything import all_facts, all_overs, all_trees, any_keys, any_objects, no_facts, way_up, without_tops
from looking import Looking
from whatopened.errors import BadFact, NoFolder, NoNode, Ringed, UnlikeHouses
from whatopened.facts import Facts
from whatopened.houses import House
from whatopened.trees import Tree

SMALL = House(["a", "b", "c"], ["t", "u"])
HOUSE = House(["c", "a", "b", "d"], ["t", "u", "v"])
OVER = {"t": "c", "c": "b", "b": "a", "u": "b", "v": "d"}


class Trees(Looking):
    def ringed(self, over, call, *parts):
        """The call raises Ringed with folders that lie in each other by the dict."""
        with self.assertRaises(Ringed) as caught:
            call(*parts)
        folders = caught.exception.folders
        self.assertIs(type(folders), tuple)
        self.assertTrue(folders)
        self.assertEqual(len(set(folders)), len(folders))
        for at, folder in enumerate(folders):
            self.assertEqual(over[folder], folders[(at + 1) % len(folders)])
        return folders


class WhatATreeTells(Trees):
    def test_the_house(self):
        self.assertEqual(Tree(HOUSE, OVER).house, HOUSE)

    def test_the_folder_directly_over_a_node(self):
        tree = Tree(HOUSE, OVER)
        self.assertEqual([tree.over(node) for node in HOUSE], ["b", None, "a", None, "c", "b", "d"])
        self.assertIs(tree.over("a"), None)

    def test_the_folders_above_a_node_the_nearest_first(self):
        tree = Tree(HOUSE, OVER)
        self.assertEqual(tree.above("t"), ("c", "b", "a"))
        self.assertEqual(tree.above("c"), ("b", "a"))
        self.assertEqual(tree.above("v"), ("d",))
        self.assertEqual(tree.above("a"), ())
        self.assertIs(type(tree.above("a")), tuple)

    def test_the_nodes_below_a_folder_in_the_order_of_nodes(self):
        tree = Tree(HOUSE, OVER)
        self.assertEqual(tree.below("a"), ("c", "b", "t", "u"))
        self.assertEqual(tree.below("b"), ("c", "t", "u"))
        self.assertEqual(tree.below("c"), ("t",))
        self.assertEqual(Tree(HOUSE, {}).below("c"), ())
        self.assertIs(type(tree.below("a")), tuple)

    def test_whether_a_node_lies_below_a_folder(self):
        tree = Tree(HOUSE, OVER)
        for node, folder in (("t", "c"), ("t", "b"), ("t", "a"), ("c", "a"), ("v", "d")):
            self.assertIs(tree.lies(node, folder), True)
        for node, folder in (("a", "b"), ("v", "a"), ("t", "d"), ("a", "a"), ("c", "c"), ("b", "c")):
            self.assertIs(tree.lies(node, folder), False)

    def test_all_trees_of_a_small_house(self):
        for over in all_overs(SMALL):
            tree = Tree(SMALL, without_tops(over))
            for node in SMALL:
                self.assertEqual(tree.over(node), over[node])
                self.assertEqual(list(tree.above(node)), way_up(over, node))
                for folder in SMALL.folders:
                    self.assertIs(tree.lies(node, folder), folder in way_up(over, node))
            for folder in SMALL.folders:
                nodes = [node for node in SMALL if folder in way_up(over, node)]
                self.assertEqual(list(tree.below(folder)), nodes)

    def test_a_tree_without_keys(self):
        tree = Tree(HOUSE, {})
        for node in HOUSE:
            self.assertIs(tree.over(node), None)
            self.assertEqual(tree.above(node), ())

    def test_arguments_by_name(self):
        tree = Tree(over=OVER, house=HOUSE)
        self.assertEqual(tree, Tree(HOUSE, OVER))
        self.assertEqual(tree.over(node="t"), "c")
        self.assertEqual(tree.above(node="c"), ("b", "a"))
        self.assertEqual(tree.below(folder="d"), ("v",))
        self.assertIs(tree.lies(folder="a", node="t"), True)
        self.assertEqual(tree.moved(folder="d", node="t"), tree.moved("t", "d"))
        self.assertIs(tree.holds(fact=("below", "t", "a")), True)
        self.assertIs(tree.keeps(facts=Facts(HOUSE)), True)


class WhatIsNoTree(Trees):
    def test_a_key_that_is_no_node(self):
        for key in [*any_keys(), "x", "ab"]:
            self.raised(NoNode, "node", key, Tree, HOUSE, {key: "a"})
            self.raised(NoNode, "node", key, Tree, HOUSE, {"t": "a", key: "b", "y": "a"})

    def test_a_worth_that_is_no_folder(self):
        for worth in [*any_objects(), "x", "t", ["a"], ("a",)]:
            self.raised(NoFolder, "folder", worth, Tree, HOUSE, {"t": worth})
            self.raised(NoFolder, "folder", worth, Tree, HOUSE, {"a": "b", "t": worth, "u": "x"})

    def test_keys_are_told_ahead_of_worths_and_these_ahead_of_rings(self):
        self.raised(NoNode, "node", "x", Tree, HOUSE, {"a": 5, "x": "a"})
        self.raised(NoNode, "node", 5, Tree, HOUSE, {"a": "a", 5: "t"})
        self.raised(NoFolder, "folder", "t", Tree, HOUSE, {"a": "a", "u": "t"})
        self.raised(NoFolder, "folder", "a", Tree, House(["b"], ["a"]), {"b": "a"})

    def test_a_folder_in_itself(self):
        self.assertEqual(self.ringed({"a": "a"}, Tree, HOUSE, {"a": "a"}), ("a",))

    def test_rings_of_several_folders(self):
        overs = [
            {"a": "b", "b": "a"}, {"c": "a", "a": "b", "b": "c"}, {"a": "c", "b": "a", "c": "b", "t": "a", "d": "b"},
            {"c": "a", "a": "d", "d": "b", "b": "a", "t": "c"}, {"c": "a", "a": "a", "b": "d", "d": "b"},
        ]
        for over in overs:
            self.ringed(over, Tree, HOUSE, over)

    def test_all_dicts_of_a_small_house(self):
        fine = [without_tops(over) for over in all_overs(SMALL)]
        folders = [None, *SMALL.folders]
        rows = [(one, other, third) for one in folders for other in folders for third in folders]
        for row in rows:
            over = without_tops(dict(zip(SMALL.folders, row)))
            if over in fine:
                self.assertEqual(Tree(SMALL, over).over("a"), over.get("a"))
            else:
                self.ringed(over, Tree, SMALL, over)


class WhatItIsAskedWrongly(Trees):
    def test_what_is_no_node(self):
        tree = Tree(HOUSE, OVER)
        for thing in [*any_objects(), "x", ["a"], ("t",), tree, HOUSE]:
            self.raised(NoNode, "node", thing, tree.over, thing)
            self.raised(NoNode, "node", thing, tree.above, thing)
            self.raised(NoNode, "node", thing, tree.lies, thing, "a")
            self.raised(NoNode, "node", thing, tree.moved, thing, "a")
            self.raised(NoNode, "node", thing, tree.moved, thing, None)

    def test_what_is_no_folder(self):
        tree = Tree(HOUSE, OVER)
        for thing in [*any_objects(), "x", "t", ["a"], ("a",), tree, HOUSE]:
            self.raised(NoFolder, "folder", thing, tree.below, thing)
            self.raised(NoFolder, "folder", thing, tree.lies, "t", thing)
            if thing is not None:
                self.raised(NoFolder, "folder", thing, tree.moved, "t", thing)
                self.raised(NoFolder, "folder", thing, tree.moved, "a", thing)

    def test_a_node_is_told_ahead_of_a_folder(self):
        tree = Tree(HOUSE, OVER)
        for thing in any_objects():
            self.raised(NoNode, "node", thing, tree.lies, thing, thing)
            self.raised(NoNode, "node", thing, tree.lies, thing, "x")
            self.raised(NoNode, "node", thing, tree.moved, thing, "t")


class WhatIsMoved(Trees):
    def test_a_thing(self):
        tree = Tree(HOUSE, OVER).moved("t", "d")
        self.assertIsInstance(tree, Tree)
        self.assertEqual(tree, Tree(HOUSE, {**OVER, "t": "d"}))
        self.assertEqual(tree.house, HOUSE)

    def test_a_folder_with_all_below_it(self):
        tree = Tree(HOUSE, OVER).moved("b", "d")
        self.assertEqual(tree.above("t"), ("c", "b", "d"))
        self.assertEqual(tree.below("d"), ("c", "b", "t", "u", "v"))
        self.assertEqual(tree.below("a"), ())

    def test_to_the_very_top(self):
        tree = Tree(HOUSE, OVER).moved("b", None)
        self.assertIs(tree.over("b"), None)
        self.assertEqual(tree.above("t"), ("c", "b"))
        self.assertEqual(tree.moved("a", None), tree)

    def test_to_where_it_lies(self):
        tree = Tree(HOUSE, OVER)
        self.assertEqual(tree.moved("t", "c"), tree)

    def test_from_the_very_top(self):
        self.assertEqual(Tree(HOUSE, {}).moved("t", "a"), Tree(HOUSE, {"t": "a"}))

    def test_into_itself_or_below_itself(self):
        tree = Tree(HOUSE, OVER)
        self.assertEqual(self.ringed({"a": "a"}, tree.moved, "a", "a"), ("a",))
        self.ringed({**OVER, "a": "c"}, tree.moved, "a", "c")
        self.ringed({**OVER, "b": "c"}, tree.moved, "b", "c")

    def test_all_moves_in_a_small_house(self):
        house = House(["a", "b", "c"], ["t"])
        for over in all_overs(house):
            tree = Tree(house, without_tops(over))
            for node in house:
                for folder in [None, *house.folders]:
                    behind = {**over, node: folder}
                    if folder is not None and (node == folder or node in way_up(over, folder)):
                        self.ringed(behind, tree.moved, node, folder)
                    else:
                        self.assertEqual(tree.moved(node, folder), Tree(house, without_tops(behind)))

    def test_the_tree_itself_stays_as_it_is(self):
        tree = Tree(HOUSE, OVER)
        tree.moved("b", "d")
        tree.moved("b", None)
        with self.assertRaises(Ringed):
            tree.moved("a", "c")
        with self.assertRaises(NoFolder):
            tree.moved("a", "t")
        self.assertEqual(tree, Tree(HOUSE, OVER))
        self.assertEqual(tree.above("t"), ("c", "b", "a"))


class WhenTwoTreesAreEqual(Trees):
    def test_the_same_folders_directly_over_all_nodes(self):
        other = Tree(House(("c", "a", "b", "d"), ("t", "u", "v")), dict(reversed(list(OVER.items()))))
        self.assertIs(Tree(HOUSE, OVER) == other, True)
        self.assertIs(Tree(HOUSE, OVER) != other, False)

    def test_other_folders_or_another_house(self):
        tree = Tree(HOUSE, {"t": "a"})
        others = [
            Tree(HOUSE, {}), Tree(HOUSE, {"t": "b"}), Tree(HOUSE, {"t": "a", "u": "a"}), Tree(HOUSE, {"u": "a"}),
            Tree(House(["a", "c", "b", "d"], ["t", "u", "v"]), {"t": "a"}),
            Tree(House(["c", "a", "b", "d", "u"], ["t", "v"]), {"t": "a"}),
        ]
        for other in others:
            self.assertIs(tree == other, False)
            self.assertIs(tree != other, True)

    def test_the_same_nodes_below_other_ones_in_another_way(self):
        self.assertNotEqual(Tree(SMALL, {"t": "a", "a": "b"}), Tree(SMALL, {"t": "b", "a": "b"}))

    def test_a_tree_equals_nothing_else(self):
        tree = Tree(HOUSE, {"t": "a"})
        for thing in [*any_objects(), HOUSE, {"t": "a"}, Facts(HOUSE), "t"]:
            self.assertIs(tree == thing, False)
            self.assertIs(thing == tree, False)
            self.assertIs(tree != thing, True)


class WhatATreeCopies(Trees):
    def test_a_later_change_of_what_was_passed_changes_nothing(self):
        over = dict(OVER)
        tree = Tree(HOUSE, over)
        over["t"] = "d"
        over["a"] = "d"
        self.assertEqual(tree, Tree(HOUSE, OVER))
        self.assertEqual(tree.above("t"), ("c", "b", "a"))

    def test_what_is_passed_is_not_changed(self):
        over = dict(OVER)
        Tree(HOUSE, over).moved("t", "d")
        with self.assertRaises(Ringed):
            Tree(HOUSE, over).moved("a", "c")
        self.assertEqual(list(over.items()), list(OVER.items()))


class WhichFactsHold(Trees):
    def test_below_and_not(self):
        tree = Tree(HOUSE, OVER)
        for node, folder, lies in (("t", "a", True), ("t", "c", True), ("v", "a", False), ("a", "b", False)):
            self.assertIs(tree.holds(("below", node, folder)), lies)
            self.assertIs(tree.holds(("not", node, folder)), not lies)

    def test_lines(self):
        tree = Tree(HOUSE, OVER)
        for one, other in (("a", "c"), ("t", "a"), ("b", "u")):
            self.assertIs(tree.holds(("line", one, other)), True)
            self.assertIs(tree.holds(("line", other, one)), True)
        for one, other in (("a", "d"), ("v", "a"), ("c", "u")):
            self.assertIs(tree.holds(("line", one, other)), False)
            self.assertIs(tree.holds(("line", other, one)), False)

    def test_all_facts_in_all_trees_of_a_small_house(self):
        for over in all_overs(SMALL):
            tree = Tree(SMALL, without_tops(over))
            for word, one, other in all_facts(SMALL):
                down = other in way_up(over, one)
                up = one in way_up(over, other)
                holds = {"below": down, "not": not down, "line": down or up}[word]
                self.assertIs(tree.holds((word, one, other)), holds)

    def test_a_line_of_two_things_holds_in_no_tree(self):
        for tree in all_trees(SMALL):
            self.assertIs(tree.holds(("line", "t", "u")), False)

    def test_a_list_in_place_of_a_tuple(self):
        tree = Tree(HOUSE, OVER)
        self.assertIs(tree.holds(["below", "t", "a"]), True)
        self.assertIs(tree.holds(["line", "u", "c"]), False)

    def test_what_is_no_fact(self):
        tree = Tree(HOUSE, OVER)
        for thing in no_facts(HOUSE):
            self.raised(BadFact, "index", 0, tree.holds, thing)


class WhichFactsAreKept(Trees):
    def test_all_of_them_must_hold(self):
        tree = Tree(HOUSE, OVER)
        first, last, wrong = ("below", "t", "a"), ("line", "u", "a"), ("not", "c", "b")
        self.assertIs(tree.keeps(Facts(HOUSE, [first, last])), True)
        for rows in ([wrong], [wrong, first, last], [first, wrong, last], [first, last, wrong]):
            self.assertIs(tree.keeps(Facts(HOUSE, rows)), False)

    def test_no_facts_are_kept_by_each_tree(self):
        for tree in all_trees(SMALL):
            self.assertIs(tree.keeps(Facts(SMALL)), True)

    def test_an_equal_house_is_enough(self):
        house = House(("c", "a", "b", "d"), ("t", "u", "v"))
        self.assertIs(Tree(HOUSE, OVER).keeps(Facts(house, [("below", "v", "d")])), True)

    def test_unlike_houses(self):
        tree = Tree(HOUSE, OVER)
        others = [SMALL, House(["a", "c", "b", "d"], ["t", "u", "v"]), House(["c", "a", "b", "d", "t"], ["u", "v"])]
        for house in others:
            with self.assertRaises(UnlikeHouses):
                tree.keeps(Facts(house))
            with self.assertRaises(UnlikeHouses):
                tree.keeps(Facts(house, [("below", "t", "a")]))


if __name__ == "__main__":
    unittest.main()
