"""What is sure, never so and open: [11] to [14], and the conventions of [3] for them."""

import unittest
from itertools import combinations

from anything import all_facts, any_objects, no_facts, no_lists
from looking import FULL, LARGER, SMALL, Looking, drawn, trees_of
from whatopened.asking import alike, alone, follows, one_of, one_paper, paper, parted, table, verdict
from whatopened.errors import BadFact, BadPair, UnlikeHouses
from whatopened.facts import Facts, against
from whatopened.houses import House

HOUSE = House(["a", "b", "c"], ["t", "u"])
UNFIT = Facts(HOUSE, [("below", "t", "a"), ("below", "a", "b"), ("line", "c", "u"), ("below", "b", "a")])
EXAMPLE = Facts(
    House(["a", "b", "c"], ["t", "u", "v", "w"]),
    [("below", "t", "c"), ("below", "w", "c"), ("below", "w", "b"), ("below", "v", "b"), ("below", "v", "a"),
     ("below", "u", "a"), ("not", "u", "c")],
)


def pairs_of(house):
    """All pairs of unlike nodes, the second one a folder, by the order of nodes, then of folders."""
    return [(node, folder) for node in house.nodes for folder in house.folders if node != folder]


def belows(pairs):
    return [("below", node, folder) for node, folder in pairs]


def nots(pairs):
    return [("not", node, folder) for node, folder in pairs]


def some_pairs(house):
    """Lists of pairs of a house: none, each alone, and some of more."""
    pairs = pairs_of(house)
    longer = [list(one) for size in (2, 3, 6) for one in list(combinations(pairs, size))[:: 1 + 3 * size]]
    return [[], *[[pair] for pair in pairs], *longer[:20]]


class Asking(Looking):
    def open_trees(self, house, rows, fact_lists, paper_told):
        """A pair of trees: in the first one some of the fact lists is kept besides rows, in the second one none."""
        self.assertIs(type(paper_told), tuple)
        first, second = paper_told
        self.fits(house, rows, first)
        self.fits(house, rows, second)
        self.assertIs(any(first.holds(fact) for fact in fact_lists), True)
        self.assertIs(any(second.holds(fact) for fact in fact_lists), False)

    def shows(self, house, rows, fact):
        """The paper of a fact shows the verdict; the verdict."""
        facts = Facts(house, rows)
        word, told = verdict(facts, fact), paper(facts, fact)
        if word == "sure":
            self.group(house, [*rows, *against(house, fact)], told)
        elif word == "never":
            self.group(house, [*rows, fact], told)
        else:
            self.assertEqual(word, "open")
            self.open_trees(house, rows, [fact], told)
        self.assertEqual(facts, Facts(house, rows))
        return word

    def one_shows(self, house, rows, pairs):
        """The paper of pairs shows the verdict; the verdict."""
        facts = Facts(house, rows)
        word, told = one_of(facts, pairs), one_paper(facts, pairs)
        if word == "sure":
            self.group(house, [*rows, *nots(pairs)], told)
        elif word == "never":
            self.assertIs(type(told), list)
            self.assertEqual(len(told), len(pairs))
            for pair, nodes in zip(pairs, told):
                self.group(house, [*rows, *belows([pair])], nodes)
        else:
            self.assertEqual(word, "open")
            self.open_trees(house, rows, belows(pairs), told)
        self.assertEqual(facts, Facts(house, rows))
        return word

    def fitting_lists(self, house, seed, many, most):
        """Drawn lists of facts that some tree of a small house fits."""
        return [rows for rows in drawn(house, seed, many, most) if trees_of(house).fitting(rows)]


class WhatIsSureOfAFact(Asking):
    def test_what_is_told(self):
        rows = [("below", "t", "a"), ("not", "u", "b"), ("line", "a", "c")]
        facts = Facts(HOUSE, rows)
        for fact in [*rows, ("line", "c", "a"), ("line", "t", "a")]:
            self.assertEqual(verdict(facts, fact), "sure")
        for fact in (("not", "t", "a"), ("below", "u", "b"), ("line", "t", "u"), ("line", "u", "b")):
            self.assertEqual(verdict(facts, fact), "never")
        for fact in (("below", "a", "c"), ("below", "c", "a"), ("below", "t", "c"), ("line", "a", "b")):
            self.assertEqual(verdict(facts, fact), "open")

    def test_what_follows_from_several_facts(self):
        rows = [("below", "t", "a"), ("below", "a", "b"), ("below", "b", "c"), ("below", "u", "a")]
        self.assertEqual(self.shows(HOUSE, rows, ("below", "t", "c")), "sure")
        self.assertEqual(self.shows(HOUSE, rows, ("below", "c", "a")), "never")
        self.assertEqual(self.shows(HOUSE, rows, ("not", "c", "a")), "sure")
        self.assertEqual(self.shows(HOUSE, rows, ("line", "u", "c")), "sure")
        rows = [("below", "t", "a"), ("below", "t", "b"), ("not", "a", "b")]
        self.assertEqual(self.shows(HOUSE, rows, ("below", "b", "a")), "sure")

    def test_a_line_of_two_things_is_never_so(self):
        for rows in ([], [("below", "t", "a"), ("below", "u", "a")]):
            self.assertEqual(self.shows(HOUSE, rows, ("line", "t", "u")), "never")
            self.assertEqual(paper(Facts(HOUSE, rows), ("line", "u", "t")), ("t", "u"))

    def test_no_facts(self):
        for fact in all_facts(HOUSE):
            wanted = "never" if fact in (("line", "t", "u"), ("line", "u", "t")) else "open"
            self.assertEqual(self.shows(HOUSE, [], fact), wanted)

    def test_drawn_facts_beside_all_trees(self):
        words = []
        for house in (*SMALL, *LARGER):
            for rows in self.fitting_lists(house, 11, 12, 8):
                for fact in all_facts(house):
                    words.append(self.shows(house, rows, fact))
                    self.assertEqual(words[-1], trees_of(house).word(rows, [fact]))
        for word in ("sure", "never", "open"):
            self.assertGreater(words.count(word), 100)

    def test_drawn_facts_of_seven_nodes(self):
        for house in FULL:
            for rows in drawn(house, 12, 12, 16)[1::3]:
                for fact in all_facts(house)[::5]:
                    self.shows(house, rows, fact)

    def test_a_list_in_place_of_a_tuple_and_arguments_by_name(self):
        facts = Facts(HOUSE, (["below", "t", "a"],))
        self.assertEqual(verdict(fact=["below", "t", "a"], facts=facts), "sure")
        self.assertEqual(paper(fact=["not", "t", "a"], facts=facts), ("a", "t"))
        fact = ["line", "b", "a"]
        self.open_trees(HOUSE, facts.told(), [("line", "a", "b")], paper(facts, fact))
        self.assertEqual(fact, ["line", "b", "a"])

    def test_the_same_call_tells_the_same(self):
        for rows in self.fitting_lists(HOUSE, 13, 20, 8):
            for fact in all_facts(HOUSE)[::4]:
                self.same_again(HOUSE, rows, lambda facts: paper(facts, fact))

    def test_what_is_no_fact(self):
        facts = Facts(HOUSE, [("below", "t", "a")])
        for thing in no_facts(HOUSE):
            for told in (facts, UNFIT):
                self.raised(BadFact, "index", 0, verdict, told, thing)
                self.raised(BadFact, "index", 0, paper, told, thing)

    def test_facts_that_no_tree_fits(self):
        for fact in all_facts(HOUSE):
            self.unfit(UNFIT, verdict, UNFIT, fact)
            self.unfit(UNFIT, paper, UNFIT, fact)


class WhatIsSureOfOnePair(Asking):
    def test_the_example(self):
        house, rows = EXAMPLE.house, EXAMPLE.told()
        self.assertEqual(self.one_shows(house, rows, [("t", "a"), ("t", "b")]), "sure")
        self.assertEqual(self.shows(house, rows, ("below", "t", "a")), "open")
        self.assertEqual(self.shows(house, rows, ("below", "t", "b")), "open")

    def test_no_pairs(self):
        for rows in ([], [("below", "t", "a")]):
            self.assertEqual(one_of(Facts(HOUSE, rows), []), "never")
            self.assertEqual(one_paper(Facts(HOUSE, rows), ()), [])

    def test_pairs_that_are_never_so(self):
        rows = [("below", "a", "b"), ("not", "t", "b")]
        pairs = [("t", "b"), ("t", "a"), ("b", "a"), ("t", "b")]
        self.assertEqual(self.one_shows(HOUSE, rows, pairs), "never")

    def test_one_sure_pair_is_enough(self):
        rows = [("below", "a", "b"), ("not", "t", "b")]
        self.assertEqual(self.one_shows(HOUSE, rows, [("t", "b"), ("u", "c"), ("a", "b")]), "sure")

    def test_one_open_pair_is_enough(self):
        rows = [("below", "a", "b"), ("not", "t", "b")]
        for pairs in ([("t", "b"), ("t", "c")], [("t", "c"), ("t", "b")], [("t", "c"), ("t", "c")]):
            self.assertEqual(self.one_shows(HOUSE, rows, pairs), "open")

    def test_drawn_facts_beside_all_trees(self):
        words = []
        for house in (*SMALL, *LARGER):
            for rows in self.fitting_lists(house, 21, 12, 8):
                for pairs in some_pairs(house):
                    words.append(self.one_shows(house, rows, pairs))
                    self.assertEqual(words[-1], trees_of(house).word(rows, belows(pairs)))
        for word in ("sure", "never", "open"):
            self.assertGreater(words.count(word), 100)

    def test_sure_together_though_each_is_open_in_many_ways(self):
        found = 0
        for rows in self.fitting_lists(LARGER[1], 22, 60, 9):
            facts = Facts(LARGER[1], rows)
            for pairs in combinations(pairs_of(LARGER[1]), 2):
                if one_of(facts, pairs) == "sure" and [one_of(facts, [pair]) for pair in pairs] == ["open", "open"]:
                    found += 1
        self.assertGreater(found, 0)

    def test_lists_in_place_of_tuples_and_arguments_by_name(self):
        pairs = [["t", "a"], ("t", "b")]
        self.assertEqual(one_of(pairs=pairs, facts=EXAMPLE), "sure")
        self.assertEqual(one_of(EXAMPLE, (("t", "a"), ["t", "b"])), "sure")
        self.group(EXAMPLE.house, EXAMPLE.told() + nots(pairs), one_paper(pairs=tuple(pairs), facts=EXAMPLE))
        self.assertEqual(pairs, [["t", "a"], ("t", "b")])

    def test_the_same_call_tells_the_same(self):
        for rows in self.fitting_lists(HOUSE, 23, 20, 8):
            for pairs in some_pairs(HOUSE)[::4]:
                self.same_again(HOUSE, rows, lambda facts: one_paper(facts, pairs))

    def wrong(self, index, facts, pairs):
        self.raised(BadPair, "index", index, one_of, facts, pairs)
        self.raised(BadPair, "index", index, one_paper, facts, pairs)

    def test_what_is_no_list_of_pairs(self):
        for thing in [*no_lists(), "ta", {("t", "a"): 1}, HOUSE, EXAMPLE]:
            for facts in (Facts(HOUSE), UNFIT):
                self.wrong(0, facts, thing)

    def test_what_is_no_pair(self):
        wrong = [
            *any_objects(), ("t",), ("t", "a", "b"), ("a", "t"), ("t", "u"), ("t", "t"), ("a", "a"), ("t", "x"),
            ("x", "a"), "ta", {"t": 1, "a": 2}, ("below", "t", "a"), House(["t", "a"]), [("t", "a")],
        ]
        for thing in any_objects():
            wrong += [(thing, "a"), ["t", thing], ("t", "a", thing), (thing, thing)]
        for thing in wrong:
            for facts in (Facts(HOUSE), UNFIT):
                self.wrong(0, facts, [thing])
                self.wrong(0, facts, (thing, ("t", "a")))
                self.wrong(2, facts, [("t", "a"), ("b", "a"), thing, ("t", "t"), 5])
                self.wrong(1, facts, (["t", "a"], thing, thing))

    def test_a_pair_in_place_of_a_list_of_pairs(self):
        self.wrong(0, Facts(HOUSE), ("t", "a"))

    def test_a_call_that_raises_changes_nothing(self):
        facts, pairs = Facts(HOUSE, UNFIT.told()[:2]), [["t", "a"], ["t", "t"]]
        self.wrong(1, facts, pairs)
        self.unfit(UNFIT, one_of, UNFIT, pairs[:1])
        self.assertEqual(pairs, [["t", "a"], ["t", "t"]])
        self.assertEqual(facts.told(), UNFIT.told()[:2])

    def test_facts_that_no_tree_fits(self):
        for pairs in ([], [("t", "a")], [("t", "c"), ("u", "c")]):
            self.unfit(UNFIT, one_of, UNFIT, pairs)
            self.unfit(UNFIT, one_paper, UNFIT, pairs)


class TheTable(Asking):
    def test_the_words_by_nodes_then_folders(self):
        house = House(["b", "a"], ["t"])
        told = table(Facts(house, [("below", "t", "b")]))
        wanted = {("b", "a"): "open", ("a", "b"): "open", ("t", "b"): "below", ("t", "a"): "open"}
        self.assertEqual(list(told.items()), list(wanted.items()))
        told = table(Facts(house, [("below", "t", "b"), ("not", "t", "a")]))
        self.assertEqual(list(told.values()), ["not", "open", "below", "not"])

    def test_of_one_node_and_of_one_folder_with_things(self):
        self.assertEqual(table(Facts(House(["a"]))), {})
        self.assertEqual(table(Facts(House(["a"], ["t", "u"]), [("below", "u", "a")])),
                         {("t", "a"): "open", ("u", "a"): "below"})

    def test_drawn_facts_beside_all_trees(self):
        words = {"sure": "below", "never": "not", "open": "open"}
        for house in (*SMALL, *LARGER):
            for rows in self.fitting_lists(house, 31, 40, 9):
                told = table(Facts(house, rows))
                self.assertIs(type(told), dict)
                self.assertEqual(list(told), pairs_of(house))
                for pair in told:
                    self.assertEqual(told[pair], words[trees_of(house).word(rows, belows([pair]))])

    def test_whether_just_one_tree_fits(self):
        for house in (*SMALL, *LARGER):
            for rows in self.fitting_lists(house, 32, 40, 14):
                self.assertIs(alone(Facts(house, rows)), len(trees_of(house).fitting(rows)) == 1)

    def test_one_tree_alone(self):
        self.assertIs(alone(Facts(House(["a"]))), True)
        self.assertIs(alone(Facts(House(["a"], ["t"]))), False)
        for house in (*SMALL, LARGER[0]):
            for kept in trees_of(house).kept[:: 1 + len(trees_of(house).kept) // 20]:
                rows = [fact for fact in all_facts(house) if fact in kept and fact[0] != "line"]
                self.assertIs(alone(Facts(house, rows)), True)

    def test_a_new_dict_each_time(self):
        facts = Facts(HOUSE, [("below", "t", "a")])
        told = table(facts)
        told[("t", "a")] = "not"
        told["t"] = 1
        self.assertEqual(table(facts)[("t", "a")], "below")
        self.assertNotIn("t", table(facts=facts))
        self.assertIs(alone(facts=facts), False)

    def test_facts_that_no_tree_fits(self):
        self.unfit(UNFIT, table, UNFIT)
        self.unfit(UNFIT, alone, UNFIT)


class WhatFollows(Asking):
    def parts(self, house, rows, more):
        """What parted tells is right beside all trees; whether more follows."""
        facts, others = Facts(house, rows), Facts(house, more)
        trees, told = trees_of(house), parted(facts, others)
        fitting = trees.fitting(rows)
        kept = [all(fact in trees.kept[at] for at in fitting) for fact in others.told()]
        self.assertIs(follows(facts, others), all(kept))
        if all(kept):
            self.assertIs(told, None)
        else:
            self.assertIs(type(told), tuple)
            tree, index = told
            self.assertEqual(index, kept.index(False))
            self.assertIs(type(index), int)
            self.fits(house, rows, tree)
            self.assertIs(tree.holds(others.told()[index]), False)
        return all(kept)

    def test_what_does_not_hold_in_all_trees(self):
        facts = Facts(HOUSE, [("below", "t", "a"), ("below", "a", "b")])
        more = Facts(HOUSE, [("line", "t", "b"), ("not", "b", "a"), ("below", "a", "c"), ("below", "u", "a")])
        self.assertIs(follows(facts, more), False)
        tree, index = parted(facts, more)
        self.assertEqual(index, 2)
        self.fits(HOUSE, [*facts.told(), ("not", "a", "c")], tree)
        self.assertIs(follows(facts, more.without([2, 3])), True)
        self.assertIs(parted(facts, more.without([2, 3])), None)

    def test_no_facts(self):
        facts = Facts(HOUSE, [("below", "t", "a")])
        self.assertIs(follows(facts, Facts(HOUSE)), True)
        self.assertIs(follows(Facts(HOUSE), facts), False)
        self.assertIs(alike(Facts(HOUSE), Facts(HOUSE)), True)
        self.assertIs(alike(facts, Facts(HOUSE)), False)
        self.assertIs(alike(Facts(HOUSE), facts), False)

    def test_facts_that_no_tree_fits(self):
        facts = Facts(HOUSE, [("below", "t", "a")])
        other = Facts(HOUSE, [("line", "t", "u")])
        self.assertIs(follows(UNFIT, facts), True)
        self.assertIs(parted(UNFIT, facts), None)
        self.assertIs(follows(UNFIT, other), True)
        self.assertIs(alike(UNFIT, other), True)
        self.assertIs(alike(UNFIT, facts), False)
        self.assertIs(alike(facts, UNFIT), False)
        self.assertEqual(parted(facts, other)[1], 0)
        self.fits(HOUSE, facts.told(), parted(facts, other)[0])

    def test_the_same_told_in_other_words(self):
        one = Facts(HOUSE, [("below", "t", "a"), ("line", "a", "u")])
        other = Facts(HOUSE, [("below", "u", "a"), ("line", "t", "a")])
        self.assertIs(alike(one, other), True)
        self.assertNotEqual(one, other)

    def test_drawn_facts_beside_all_trees(self):
        answers = []
        for house in (*SMALL, *LARGER):
            lists = drawn(house, 41, 40, 7)
            for rows, more in zip(lists, [rows[:3] for rows in lists[1:]]):
                answers.append(self.parts(house, rows, more))
            for rows in lists:
                answers.append(self.parts(house, rows, rows[::-1]))
        self.assertGreater(answers.count(False), 100)

    def test_facts_that_are_alike_beside_all_trees(self):
        for house in SMALL:
            lists = drawn(house, 42, 16, 5)
            fitting = [trees_of(house).fitting(rows) for rows in lists]
            facts = [Facts(house, rows) for rows in lists]
            for at, one in enumerate(facts):
                for to, other in enumerate(facts):
                    self.assertIs(alike(one, other), fitting[at] == fitting[to])

    def test_the_same_call_tells_the_same(self):
        more = Facts(HOUSE, [("below", "t", "c"), ("line", "a", "b")])
        for rows in drawn(HOUSE, 43, 30, 8):
            self.same_again(HOUSE, rows, lambda facts: parted(facts, more))

    def test_arguments_by_name(self):
        facts, more = Facts(HOUSE, [("below", "t", "a")]), Facts(HOUSE)
        self.assertIs(follows(more=more, facts=facts), True)
        self.assertIs(parted(more=more, facts=facts), None)
        self.assertIs(alike(other=more, one=facts), False)

    def test_equal_houses_are_enough(self):
        house = House(("a", "b", "c"), ("t", "u"))
        self.assertIs(alike(Facts(house), Facts(HOUSE)), True)

    def test_unlike_houses(self):
        houses = [House(["a", "b", "c"], ["u", "t"]), House(["a", "b", "c", "t"], ["u"]), House(["a"]), FULL[0]]
        for house in houses:
            for facts in (Facts(HOUSE), UNFIT):
                for call in (follows, parted, alike):
                    with self.assertRaises(UnlikeHouses):
                        call(facts, Facts(house))
                    with self.assertRaises(UnlikeHouses):
                        call(Facts(house), facts)


if __name__ == "__main__":
    unittest.main()
