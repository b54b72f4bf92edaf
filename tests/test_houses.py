"""Houses: [5], and the conventions of [3] for them."""

import unittest

from anything import ODD_STRINGS, any_objects, no_lists
from whatopened.errors import BadHouse
from whatopened.facts import Facts
from whatopened.houses import House
from whatopened.trees import Tree


class Houses(unittest.TestCase):
    def wrong(self, index, *parts, **named):
        """House raises BadHouse with just this index."""
        with self.assertRaises(BadHouse) as caught:
            House(*parts, **named)
        self.assertEqual(caught.exception.index, index)
        self.assertIs(type(caught.exception.index), int)


class WhatAHouseTells(Houses):
    def test_folders_things_and_nodes_stand_in_their_order(self):
        house = House(["c", "a"], ["z", "b"])
        self.assertEqual(house.folders, ("c", "a"))
        self.assertEqual(house.things, ("z", "b"))
        self.assertEqual(house.nodes, ("c", "a", "z", "b"))
        for told in (house.folders, house.things, house.nodes):
            self.assertIs(type(told), tuple)

    def test_things_may_be_left_out(self):
        house = House(["a"])
        self.assertEqual((house.folders, house.things, house.nodes), (("a",), (), ("a",)))
        self.assertEqual(house, House(["a"], []))

    def test_lists_and_tuples_in_each_others_place(self):
        for folders in (["a", "b"], ("a", "b")):
            for things in (["t"], ("t",)):
                house = House(folders, things)
                self.assertEqual((house.folders, house.things), (("a", "b"), ("t",)))

    def test_arguments_by_position_and_by_name(self):
        self.assertEqual(House(things=["t"], folders=["a"]), House(["a"], ["t"]))
        self.assertEqual(House(["a"], things=["t"]), House(["a"], ["t"]))
        self.assertEqual(House(folders=["a"]), House(["a"]))

    def test_names_of_one_to_eight_letters(self):
        house = House(["a", "abcdefgh"], ["z", "zzzzzzzz"])
        self.assertEqual(house.nodes, ("a", "abcdefgh", "z", "zzzzzzzz"))

    def test_the_length_is_the_number_of_nodes(self):
        self.assertEqual(len(House(["a"])), 1)
        self.assertEqual(len(House(["a", "b"], ["t", "u", "v"])), 5)

    def test_nodes_are_in_it(self):
        house = House(["a", "b"], ["t"])
        for node in ("a", "b", "t"):
            self.assertIs(node in house, True)

    def test_any_other_object_is_not_in_it(self):
        house = House(["a", "b"], ["t"])
        others = [*any_objects(), "c", "ab", ["a"], ("a",), ("a", "b"), {"a": "t"}, house, Tree(house, {})]
        for thing in others:
            self.assertIs(thing in house, False)

    def test_a_walk_gives_the_nodes(self):
        house = House(["b", "a"], ["t"])
        self.assertEqual([node for node in house], ["b", "a", "t"])
        self.assertEqual(list(house), list(house.nodes))

    def test_a_walk_within_a_walk(self):
        house = House(["b", "a"], ["t"])
        pairs = [(one, other) for one in house for other in house]
        self.assertEqual(pairs, [(one, other) for one in "bat" for other in "bat"])

    def test_a_walk_left_early_does_not_shorten_the_next(self):
        house = House(["b", "a"], ["t"])
        for node in house:
            break
        self.assertEqual(list(house), ["b", "a", "t"])


class WhenTwoHousesAreEqual(Houses):
    def test_the_same_parts_in_the_same_order(self):
        self.assertIs(House(["a", "b"], ["t"]) == House(("a", "b"), ("t",)), True)
        self.assertIs(House(["a", "b"], ["t"]) != House(["a", "b"], ["t"]), False)

    def test_other_parts_or_another_order(self):
        house = House(["a", "b"], ["t", "u"])
        others = [
            House(["b", "a"], ["t", "u"]), House(["a", "b"], ["u", "t"]), House(["a", "b", "t", "u"]),
            House(["a", "b", "t"], ["u"]), House(["a"], ["b", "t", "u"]), House(["a", "b"], ["t"]),
            House(["a", "b"]), House(["a", "c"], ["t", "u"]), House(["a", "b"], ["t", "v"]),
        ]
        for other in others:
            self.assertIs(house == other, False)
            self.assertIs(house != other, True)

    def test_a_house_equals_nothing_else(self):
        house = House(["a"])
        for thing in [*any_objects(), ("a",), ["a"], "a", (("a",), ()), Tree(house, {}), Facts(house)]:
            self.assertIs(house == thing, False)
            self.assertIs(thing == house, False)
            self.assertIs(house != thing, True)


class WhatIsNoHouse(Houses):
    def test_folders_are_no_list_or_empty(self):
        for folders in [*no_lists(), [], (), "abc", "a", {"a": 1}, House(["a"])]:
            self.wrong(0, folders)
            self.wrong(0, folders, ["t"])
            self.wrong(0, folders, 5)
            self.wrong(0, things=["T"], folders=folders)

    def test_a_folder_is_no_name(self):
        for thing in any_objects():
            self.wrong(0, [thing])
            self.wrong(0, (thing, "a"))
            self.wrong(2, ["a", "b", thing])
            self.wrong(1, ["a", thing, "b", thing], ["t"])

    def test_a_thing_is_no_name(self):
        for thing in any_objects():
            self.wrong(1, ["a"], [thing])
            self.wrong(3, ["a", "b"], ["t", thing])
            self.wrong(3, ["a", "b"], ("t", thing, "u", "t"))

    def test_strings_that_are_no_names(self):
        for thing in ODD_STRINGS:
            self.wrong(1, ["a", thing])

    def test_a_folder_stood_before(self):
        self.wrong(1, ["a", "a"])
        self.wrong(2, ["a", "b", "a", "b"])

    def test_a_thing_stood_before(self):
        self.wrong(2, ["a"], ["t", "t"])
        self.wrong(4, ["a", "b"], ["t", "u", "u", "t"])

    def test_a_thing_stood_before_among_the_folders(self):
        self.wrong(1, ["a"], ["a"])
        self.wrong(4, ["a", "b"], ["t", "u", "b"])

    def test_a_name_that_stood_before_ahead_of_what_is_no_name(self):
        self.wrong(1, ["a", "a", "B"])
        self.wrong(1, ["a", "B", "a"])
        self.wrong(2, ["a"], ["t", "t", 5])

    def test_things_are_no_list(self):
        for things in [*no_lists(), "t", "tu", {"t": 1}, House(["t"])]:
            self.wrong(1, ["a"], things)
            self.wrong(3, ("a", "b", "c"), things)

    def test_a_wrong_folder_is_told_ahead_of_all_that_is_wrong_with_the_things(self):
        self.wrong(1, ["a", "a"], 5)
        self.wrong(2, ["a", "b", 7, "c"], None)
        self.wrong(0, [[]], ["T"])
        self.wrong(1, ["a", True, "b"], ["t", "t"])


class WhatAHouseCopies(Houses):
    def test_a_later_change_of_what_was_passed_changes_nothing(self):
        folders, things = ["a", "b"], ["t"]
        house = House(folders, things)
        folders.append("c")
        things[0] = "u"
        self.assertEqual(house, House(["a", "b"], ["t"]))
        self.assertEqual(list(house), ["a", "b", "t"])
        self.assertEqual(len(house), 3)
        self.assertNotIn("c", house)

    def test_what_is_passed_is_not_changed(self):
        folders, things = ["b", "a"], ["u", "t"]
        House(folders, things)
        self.wrong(2, folders, ["a", "b"])
        self.assertEqual((folders, things), (["b", "a"], ["u", "t"]))


if __name__ == "__main__":
    unittest.main()
