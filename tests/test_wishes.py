"""Folders for wishes: [20], [21], and the conventions of [3] for them."""

import unittest
from itertools import combinations
from random import Random

from anything import any_objects, holds_in
from looking import LARGER, SMALL, Looking, drawn, trees_of
from whatopened.asking import one_of
from whatopened.errors import NoFolder, NoNode
from whatopened.facts import Facts
from whatopened.houses import House
from whatopened.wishes import as_much, covers, places

HOUSE = House(["b", "a", "c"], ["u", "t"])
UNFIT = Facts(HOUSE, [("below", "t", "a"), ("below", "a", "b"), ("line", "c", "u"), ("below", "b", "a")])
EXAMPLE = Facts(
    House(["a", "b", "c"], ["t", "u", "v", "w"]),
    [("below", "t", "c"), ("below", "w", "c"), ("below", "w", "b"), ("below", "v", "b"), ("below", "v", "a"),
     ("below", "u", "a"), ("not", "u", "c")],
)


def reaches(over, node, folders):
    """Whether, in the tree of a dict, a node lies below one of the folders."""
    return any(node != folder and holds_in(over, ("below", node, folder)) for folder in folders)


class Wishes(Looking):
    def lists(self, seed, many, most):
        """Houses of at most five nodes, facts that some tree fits, and these trees as dicts."""
        for house in (*SMALL, *LARGER):
            for rows in drawn(house, seed, many, most):
                fitting = trees_of(house).fitting(rows)
                if fitting:
                    yield house, rows, [trees_of(house).overs[at] for at in fitting]

    def do(self, house, overs, wanted, barred, folders):
        """Whether the folders cover what is wanted and nothing that is barred, beside all trees that fit."""
        wanted_lie = all(reaches(over, node, folders) for over in overs for node in wanted)
        return wanted_lie and not any(reaches(over, node, folders) for over in overs for node in barred)


class WhichPlaces(Wishes):
    def test_folders_above_all_that_is_wanted_and_nothing_that_is_barred(self):
        facts = Facts(HOUSE, [("below", "t", "a"), ("below", "a", "c"), ("below", "u", "c"), ("not", "u", "a")])
        self.assertEqual(places(facts, ["t"], []), ["a", "c"])
        self.assertEqual(places(facts, ["t", "u"], []), ["c"])
        self.assertEqual(places(facts, ["t"], ["u"]), ["a"])
        self.assertEqual(places(facts, ["u"], ["t"]), [])
        self.assertEqual(places(facts, ["t", "a"], []), ["c"])

    def test_nothing_is_wanted(self):
        facts = Facts(HOUSE, [("below", "t", "a"), ("not", "t", "c")])
        self.assertEqual(places(facts, [], []), ["b", "a", "c"])
        self.assertEqual(places(facts, [], ["t"]), ["c"])
        self.assertEqual(places(facts, [], ["u"]), [])

    def test_a_folder_does_not_lie_below_itself(self):
        facts = Facts(HOUSE, [("below", "a", "c")])
        self.assertEqual(places(facts, ["a"], []), ["c"])
        self.assertEqual(places(facts, ["c"], []), [])
        self.assertEqual(places(facts, [], ["a"]), ["a"])
        self.assertEqual(places(facts, [], ["c"]), ["a", "c"])
        self.assertEqual(places(facts, ["a"], ["c"]), ["c"])

    def test_what_is_open_is_neither_wanted_nor_barred_enough(self):
        facts = Facts(HOUSE, [("below", "u", "a")])
        self.assertEqual(places(facts, ["t"], []), [])
        self.assertEqual(places(facts, ["u"], ["t"]), [])

    def test_what_is_wanted_and_barred(self):
        facts = Facts(HOUSE, [("below", "t", "a")])
        self.assertEqual(places(facts, ["t"], ["t"]), [])
        self.assertEqual(covers(facts, ["t"], ["t"]), [])

    def test_one_thing_twice(self):
        facts = Facts(HOUSE, [("below", "t", "a"), ("not", "u", "a")])
        self.assertEqual(places(facts, ["t", "t"], ["u", "u"]), ["a"])
        self.assertEqual(covers(facts, ["t", "t"], ["u", "u"]), [("a",)])

    def test_drawn_wishes_beside_all_trees(self):
        draw = Random(111)
        found = 0
        for house, rows, overs in self.lists(112, 30, 10):
            facts = Facts(house, rows)
            for turn in range(6):
                wanted, barred = [draw.sample(house.nodes, draw.randint(0, min(2, len(house)))) for side in range(2)]
                told = places(facts, wanted, barred)
                self.assertIs(type(told), list)
                can = [folder for folder in house.folders if self.do(house, overs, wanted, barred, [folder])]
                self.assertEqual(told, can)
                found += len(told)
            self.assertEqual(facts, Facts(house, rows))
        self.assertGreater(found, 200)


class WhatCovers(Wishes):
    def test_the_example(self):
        self.assertEqual(covers(EXAMPLE, ["t"], []), [("c",)])
        self.assertEqual(covers(EXAMPLE, ["w"], []), [("b",), ("c",)])
        self.assertEqual(covers(EXAMPLE, ["t", "v"], []), [("a", "b"), ("a", "c"), ("b", "c")])

    def test_below_some_one_not_always_the_same(self):
        # t lies below a or b surely, and below neither surely.
        self.assertEqual(places(EXAMPLE, ["t", "v", "u"], []), [])
        self.assertEqual(covers(EXAMPLE, ["t", "u"], []), [("a", "b"), ("a", "c")])
        facts = EXAMPLE + [("below", "c", "b")]
        self.assertEqual(covers(facts, ["t", "c"], []), [("b",)])

    def test_nothing_is_wanted(self):
        for facts in (EXAMPLE, Facts(HOUSE), Facts(House(["a"]))):
            for barred in ([], list(facts.house.nodes)):
                self.assertEqual(covers(facts, [], barred), [()])

    def test_there_is_none(self):
        self.assertEqual(covers(Facts(HOUSE), ["t"], []), [])
        facts = Facts(HOUSE, [("below", "t", "a"), ("below", "u", "a")])
        self.assertEqual(covers(facts, ["t"], ["u"]), [])
        self.assertEqual(covers(facts, ["a"], []), [])

    def test_a_folder_that_is_wanted_is_not_below_itself(self):
        facts = Facts(HOUSE, [("below", "t", "a"), ("below", "a", "c")])
        self.assertEqual(covers(facts, ["t", "a"], []), [("c",)])
        self.assertEqual(covers(facts, ["t"], ["a"]), [("a",)])

    def test_the_order_of_choices(self):
        house = House(["d", "a", "c", "b"], ["t", "u"])
        rows = [("below", "t", "d"), ("below", "t", "b"), ("below", "u", "c"), ("below", "u", "a"), ("not", "u", "d"),
                ("not", "t", "c"), ("not", "u", "b"), ("not", "t", "a")]
        told = [("d", "a"), ("d", "c"), ("a", "b"), ("c", "b")]
        self.assertEqual(covers(Facts(house, rows), ["t", "u"], []), told)
        self.assertEqual(covers(Facts(house, rows), ["u", "t"], []), told)

    def test_drawn_wishes_beside_all_trees(self):
        draw = Random(113)
        lengths = []
        for house, rows, overs in self.lists(114, 40, 16):
            facts = Facts(house, rows)
            for turn in range(6):
                wanted, barred = [draw.sample(house.nodes, draw.randint(0, min(3, len(house)))) for side in range(2)]
                if turn % 2:
                    # Nodes that surely lie somewhere: several folders are needed for some of them.
                    wanted, barred = [row[1] for row in rows if row[0] == "below"][turn // 2:], []
                told = covers(facts, wanted, barred)
                every = [one for size in range(len(house.folders) + 1) for one in combinations(house.folders, size)]
                can = [one for one in every if self.do(house, overs, wanted, barred, one)]
                self.assertEqual(told, [one for one in can if len(one) == len(can[0])])
                self.assertEqual([type(one) for one in told], [tuple] * len(told))
                lengths.append(len(told[0]) if told else None)
            self.assertEqual(facts, Facts(house, rows))
        for length in (None, 0, 1, 2):
            self.assertGreater(lengths.count(length), 4, length)

    def test_covers_that_are_sure_only_together(self):
        found = 0
        for house, rows, overs in self.lists(115, 60, 9):
            if len(house) == 5:
                facts = Facts(house, rows)
                for wanted in combinations(house.nodes, 2):
                    for folders in covers(facts, wanted, ()):
                        words = [[one_of(facts, [(node, one)]) for one in folders if one != node] for node in wanted]
                        found += sum("sure" not in word for word in words)
        self.assertGreater(found, 0)

    def test_lists_in_place_of_tuples_and_arguments_by_name(self):
        wanted, barred = ["t"], ("u",)
        facts = Facts(HOUSE, [("below", "t", "a"), ("not", "u", "a")])
        for call, told in ((places, ["a"]), (covers, [("a",)])):
            self.assertEqual(call(barred=barred, wanted=wanted, facts=facts), told)
            self.assertEqual(call(facts, tuple(wanted), list(barred)), told)
            call(facts, wanted, barred).append(1)
            self.assertEqual(call(facts, wanted, barred), told)
        self.assertEqual((wanted, barred), (["t"], ("u",)))

    def test_the_same_call_tells_the_same(self):
        for rows in drawn(HOUSE, 116, 20, 8):
            if trees_of(HOUSE).fitting(rows):
                self.same_again(HOUSE, rows, lambda facts: covers(facts, ["t", "u"], ["b"]))

    def test_what_is_no_node(self):
        for call in (places, covers):
            for facts in (Facts(HOUSE), UNFIT):
                for thing in any_objects() + ["x", ("t",), "ta"]:
                    self.raised(NoNode, "node", thing, call, facts, [thing], [])
                    self.raised(NoNode, "node", thing, call, facts, ["t", thing, 5], [6])
                    self.raised(NoNode, "node", thing, call, facts, [], [thing, 5])
                    self.raised(NoNode, "node", thing, call, facts, ("a", "t"), ("u", thing))

    def test_facts_that_no_tree_fits(self):
        for call in (places, covers):
            for wanted in ([], ["t"], ["a", "t"]):
                self.unfit(UNFIT, call, UNFIT, wanted, [])
                self.unfit(UNFIT, call, UNFIT, [], wanted)


class AsMuch(Wishes):
    def test_one_of_others_or_below_one(self):
        facts = Facts(HOUSE, [("below", "a", "c")])
        self.assertIs(as_much(facts, ["a"], ["c"]), True)
        self.assertIs(as_much(facts, ["c"], ["a"]), False)
        self.assertIs(as_much(facts, ["a", "c"], ["c"]), True)
        self.assertIs(as_much(facts, ["a", "c"], ["a"]), False)
        self.assertIs(as_much(facts, ["a"], ["a"]), True)
        self.assertIs(as_much(facts, ["a", "b"], ["c"]), False)
        self.assertIs(as_much(facts, ["a", "b"], ["b", "c"]), True)

    def test_no_folders(self):
        facts = Facts(HOUSE, [("below", "a", "c")])
        self.assertIs(as_much(facts, [], []), True)
        self.assertIs(as_much(facts, [], ["a"]), True)
        self.assertIs(as_much(facts, ["a"], []), False)

    def test_one_folder_twice(self):
        facts = Facts(HOUSE, [("below", "a", "c")])
        self.assertIs(as_much(facts, ["a", "a"], ["c", "c"]), True)

    def test_below_some_one_not_always_the_same(self):
        house = House(["a", "b", "c"], ["t", "u"])
        facts = Facts(house, [("line", "a", "c"), ("line", "b", "c"), ("not", "a", "c")])
        self.assertIs(as_much(facts, ["c"], ["a"]), True)
        rows = [("below", "t", "a"), ("below", "t", "c"), ("below", "u", "b"), ("below", "u", "c"), ("not", "a", "b"),
                ("not", "b", "a")]
        # c may have a and b below it.
        self.assertIs(as_much(Facts(house, rows), ["c"], ["a", "b"]), False)

    def test_drawn_facts_beside_all_trees(self):
        answers = []
        together = 0
        draw = Random(117)
        for house, rows, overs in self.lists(118, 30, 9):
            facts = Facts(house, rows)
            for turn in range(6):
                some, others = [draw.sample(house.folders, draw.randint(0, len(house.folders))) for side in range(2)]
                answers.append(as_much(facts, some, others))
                wanted = all(one in others or reaches(over, one, others) for over in overs for one in some)
                self.assertIs(answers[-1], wanted)
                together += wanted and not all(any(as_much(facts, [one], [other]) for other in others) for one in some)
            self.assertEqual(facts, Facts(house, rows))
        self.assertGreater(answers.count(True), 100)
        self.assertGreater(answers.count(False), 100)
        self.assertGreater(together, 0)

    def test_lists_in_place_of_tuples_and_arguments_by_name(self):
        facts, some, others = Facts(HOUSE, [("below", "a", "c")]), ["a"], ("c",)
        self.assertIs(as_much(others=others, some=some, facts=facts), True)
        self.assertIs(as_much(facts, tuple(some), list(others)), True)
        self.assertEqual((some, others), (["a"], ("c",)))

    def test_what_is_no_folder(self):
        for facts in (Facts(HOUSE), UNFIT):
            for thing in any_objects() + ["x", "t", ("a",), "ab"]:
                self.raised(NoFolder, "folder", thing, as_much, facts, [thing, 5], [6])
                self.raised(NoFolder, "folder", thing, as_much, facts, ("a", thing), ())
                self.raised(NoFolder, "folder", thing, as_much, facts, [], ["a", thing, 5])
                self.raised(NoFolder, "folder", thing, as_much, facts, ("a", "b"), (thing,))

    def test_facts_that_no_tree_fits(self):
        for some in ([], ["a"], ["a", "b"]):
            self.unfit(UNFIT, as_much, UNFIT, some, ["a"])


if __name__ == "__main__":
    unittest.main()
