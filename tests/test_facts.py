"""Facts: [7], [8], [10], and the conventions of [3] for them."""

import unittest

from anything import all_facts, all_trees, any_objects, no_facts, no_lists
from whatopened.errors import BadFact, BadIndex
from whatopened.facts import Facts, against
from whatopened.houses import House
from whatopened.trees import Tree

HOUSE = House(["b", "a", "c"], ["u", "t"])
ROWS = [("below", "t", "a"), ("not", "u", "c"), ("line", "b", "a"), ("line", "a", "t")]
TOLD = [("below", "t", "a"), ("not", "u", "c"), ("line", "b", "a"), ("line", "a", "t")]


class FactsOfAHouse(unittest.TestCase):
    def wrong(self, index, call, *parts, **named):
        """The call raises BadFact with just this index."""
        with self.assertRaises(BadFact) as caught:
            call(*parts, **named)
        self.assertEqual(caught.exception.index, index)
        self.assertIs(type(caught.exception.index), int)


class WhatIsTold(FactsOfAHouse):
    def test_the_house(self):
        self.assertEqual(Facts(HOUSE, ROWS).house, HOUSE)

    def test_the_facts_as_tuples_in_their_order(self):
        told = Facts(HOUSE, ROWS).told()
        self.assertEqual(told, TOLD)
        self.assertIs(type(told), list)
        for fact in told:
            self.assertIs(type(fact), tuple)

    def test_facts_may_be_left_out(self):
        self.assertEqual(Facts(HOUSE).told(), [])
        self.assertEqual(Facts(HOUSE), Facts(HOUSE, []))
        self.assertEqual(len(Facts(HOUSE)), 0)

    def test_lists_and_tuples_in_each_others_place(self):
        rows = [list(row) for row in ROWS]
        for facts in (rows, tuple(rows), tuple(ROWS), ROWS):
            self.assertEqual(Facts(HOUSE, facts).told(), TOLD)
            self.assertIs(type(Facts(HOUSE, facts).told()[0]), tuple)

    def test_arguments_by_name(self):
        self.assertEqual(Facts(facts=ROWS, house=HOUSE), Facts(HOUSE, ROWS))
        self.assertEqual(Facts(house=HOUSE).told(), [])
        self.assertEqual(Facts(HOUSE, ROWS).without(indexes=[0, 1]).told(), TOLD[2:])

    def test_a_line_is_told_in_the_order_of_the_house(self):
        self.assertEqual(Facts(HOUSE, [("line", "a", "b")]).told(), [("line", "b", "a")])
        self.assertEqual(Facts(HOUSE, [("line", "t", "c")]).told(), [("line", "c", "t")])
        self.assertEqual(Facts(HOUSE, [("line", "t", "u")]).told(), [("line", "u", "t")])
        self.assertEqual(Facts(HOUSE, [("line", "u", "t")]).told(), [("line", "u", "t")])

    def test_below_and_not_are_told_as_they_are(self):
        rows = [("below", "a", "b"), ("below", "b", "a"), ("not", "a", "b"), ("not", "b", "a")]
        self.assertEqual(Facts(HOUSE, rows).told(), rows)

    def test_each_fact_is_told_once_where_it_was_first_told(self):
        rows = [ROWS[1], ROWS[0], ROWS[1], list(ROWS[0]), ROWS[2], ROWS[1]]
        self.assertEqual(Facts(HOUSE, rows).told(), [TOLD[1], TOLD[0], TOLD[2]])

    def test_a_line_told_the_other_way_round_is_the_same_fact(self):
        rows = [("line", "a", "b"), ROWS[0], ["line", "b", "a"], ("line", "a", "b")]
        facts = Facts(HOUSE, rows)
        self.assertEqual(facts.told(), [("line", "b", "a"), TOLD[0]])
        self.assertEqual(len(facts), 2)
        self.assertEqual(Facts(HOUSE, [("line", "a", "b")]), Facts(HOUSE, [("line", "b", "a")]))

    def test_below_not_and_line_of_the_same_nodes_are_three_facts(self):
        rows = [("below", "a", "b"), ("not", "a", "b"), ("line", "b", "a")]
        self.assertEqual(len(Facts(HOUSE, rows)), 3)

    def test_all_facts_can_be_told(self):
        facts = Facts(HOUSE, all_facts(HOUSE))
        self.assertEqual(len(facts), 12 + 12 + 10)


class WhatIsInThem(FactsOfAHouse):
    def test_their_number(self):
        self.assertEqual(len(Facts(HOUSE, ROWS)), 4)

    def test_a_fact_that_is_one_of_them(self):
        facts = Facts(HOUSE, ROWS)
        for fact in ROWS:
            self.assertIs(fact in facts, True)
            self.assertIs(list(fact) in facts, True)
        self.assertIs(("line", "a", "b") in facts, True)
        self.assertIs(["line", "t", "a"] in facts, True)

    def test_a_fact_that_is_none_of_them(self):
        facts = Facts(HOUSE, [("below", "a", "b"), ("line", "c", "t")])
        for fact in (("below", "b", "a"), ("not", "a", "b"), ("line", "a", "b"), ("below", "t", "c")):
            self.assertIs(fact in facts, False)

    def test_any_other_object(self):
        facts = Facts(HOUSE, ROWS)
        for thing in [*no_facts(HOUSE), facts, ROWS, tuple(ROWS), 0, HOUSE, Tree(HOUSE, {})]:
            self.assertIs(thing in facts, False)

    def test_a_walk_gives_them(self):
        self.assertEqual([fact for fact in Facts(HOUSE, ROWS)], TOLD)
        self.assertEqual(list(Facts(HOUSE, [("line", "a", "b")])), [("line", "b", "a")])

    def test_a_walk_within_a_walk(self):
        facts = Facts(HOUSE, ROWS)
        pairs = [(one, other) for one in facts for other in facts]
        self.assertEqual(pairs, [(one, other) for one in TOLD for other in TOLD])


class WhatIsNoFact(FactsOfAHouse):
    def test_no_list(self):
        for facts in [*no_lists(), "below", Facts(HOUSE, ROWS), {("below", "t", "a"): 1}, HOUSE]:
            self.wrong(0, Facts, HOUSE, facts)
            self.wrong(0, Facts, house=HOUSE, facts=facts)

    def test_the_index_of_the_first_that_is_none(self):
        for thing in no_facts(HOUSE):
            self.wrong(0, Facts, HOUSE, [thing])
            self.wrong(2, Facts, HOUSE, [ROWS[0], ROWS[1], thing, ROWS[2], 5])
            self.wrong(2, Facts, HOUSE, (ROWS[0], ROWS[0], thing))

    def test_a_fact_in_place_of_a_list_of_facts(self):
        self.wrong(0, Facts, HOUSE, ("below", "t", "a"))

    def test_facts_of_another_house(self):
        house = House(["a"], ["t", "b"])
        self.assertEqual(Facts(house, [("below", "t", "a"), ("line", "t", "b")]).told()[1], ("line", "t", "b"))
        self.wrong(1, Facts, house, [("below", "t", "a"), ("below", "t", "b")])
        self.wrong(0, Facts, house, [("below", "u", "a")])


class WhatIsPutBehind(FactsOfAHouse):
    def test_more_facts(self):
        facts = Facts(HOUSE, ROWS[:2]) + ROWS[2:]
        self.assertIsInstance(facts, Facts)
        self.assertEqual(facts, Facts(HOUSE, ROWS))
        self.assertEqual((Facts(HOUSE) + tuple(ROWS)).told(), TOLD)
        self.assertEqual((Facts(HOUSE, ROWS) + []).told(), TOLD)
        self.assertEqual((Facts(HOUSE, ROWS) + ()).house, HOUSE)

    def test_facts_told_again_stay_where_they_were(self):
        facts = Facts(HOUSE, ROWS[:3]) + [("line", "a", "b"), ["not", "t", "b"], ROWS[0], ("not", "t", "b")]
        self.assertEqual(facts.told(), [*TOLD[:3], ("not", "t", "b")])

    def test_wrong_ones_by_their_index_in_what_is_added(self):
        facts = Facts(HOUSE, ROWS)
        for thing in no_facts(HOUSE):
            self.wrong(0, lambda: facts + [thing])
            self.wrong(1, lambda: facts + (ROWS[0], thing, thing))
        self.assertEqual(facts.told(), TOLD)

    def test_what_is_no_list(self):
        facts = Facts(HOUSE, ROWS)
        for thing in [*no_lists(), facts, Facts(HOUSE), "below"]:
            self.wrong(0, lambda: facts + thing)

    def test_the_facts_themselves_stay_as_they_are(self):
        facts, more = Facts(HOUSE, ROWS[:1]), [ROWS[1]]
        longer = facts + more
        more.append(ROWS[2])
        self.assertEqual(facts.told(), TOLD[:1])
        self.assertEqual(longer.told(), TOLD[:2])
        before = facts
        facts += [ROWS[3]]
        self.assertEqual(before.told(), TOLD[:1])
        self.assertEqual(facts.told(), [TOLD[0], TOLD[3]])


class WhatIsLeftOut(FactsOfAHouse):
    def wrong_index(self, thing, facts, indexes):
        """without raises BadIndex with this very thing."""
        with self.assertRaises(BadIndex) as caught:
            facts.without(indexes)
        kept = caught.exception.thing
        self.assertIs(type(kept), type(thing))
        self.assertTrue(kept is thing or kept == thing)

    def test_the_facts_whose_indexes_are_listed(self):
        facts = Facts(HOUSE, ROWS)
        self.assertEqual(facts.without([0]).told(), TOLD[1:])
        self.assertEqual(facts.without([3, 1]).told(), [TOLD[0], TOLD[2]])
        self.assertEqual(facts.without((0, 1, 2, 3)), Facts(HOUSE))
        self.assertEqual(facts.without([]), facts)
        self.assertIsInstance(facts.without(()), Facts)
        self.assertEqual(facts.without([0]).house, HOUSE)

    def test_indexes_count_in_told(self):
        facts = Facts(HOUSE, [ROWS[0], ROWS[0], ROWS[1], ROWS[2]])
        self.assertEqual(facts.without([1]).told(), [TOLD[0], TOLD[2]])

    def test_what_is_no_index(self):
        facts = Facts(HOUSE, ROWS)
        wrong = [thing for thing in any_objects() if not (type(thing) is int and 0 <= thing < 4)]
        for thing in [*wrong, -1, -4, 4, 5, 999999999, "0", [0], (0,)]:
            self.wrong_index(thing, facts, [thing])
            self.wrong_index(thing, facts, (3, 0, thing, 77))

    def test_true_and_false_are_no_indexes(self):
        facts = Facts(HOUSE, ROWS)
        self.wrong_index(True, facts, [True])
        self.wrong_index(False, facts, [2, False])
        self.wrong_index(True, facts, [1, True])

    def test_an_index_that_stood_before(self):
        facts = Facts(HOUSE, ROWS)
        self.wrong_index(2, facts, [2, 2])
        self.wrong_index(0, facts, (0, 3, 1, 0, 1, 9))
        self.wrong_index(9, facts, (0, 3, 9, 0))

    def test_of_no_facts_there_is_no_index(self):
        self.assertEqual(Facts(HOUSE).without([]), Facts(HOUSE))
        self.wrong_index(0, Facts(HOUSE), [0])

    def test_the_facts_themselves_stay_as_they_are(self):
        facts, indexes = Facts(HOUSE, ROWS), [3, 0]
        facts.without(indexes)
        self.wrong_index(7, facts, [0, 7])
        self.assertEqual(facts.told(), TOLD)
        self.assertEqual(indexes, [3, 0])


class WhenTwoFactsAreEqual(FactsOfAHouse):
    def test_the_same_facts_in_the_same_order(self):
        other = Facts(House(("b", "a", "c"), ("u", "t")), tuple([list(row) for row in ROWS + ROWS]))
        self.assertIs(Facts(HOUSE, ROWS) == other, True)
        self.assertIs(Facts(HOUSE, ROWS) != other, False)

    def test_other_facts_another_order_or_another_house(self):
        facts = Facts(HOUSE, ROWS)
        others = [
            Facts(HOUSE), Facts(HOUSE, ROWS[:3]), Facts(HOUSE, ROWS[::-1]), Facts(HOUSE, [*ROWS, ("below", "a", "c")]),
            Facts(House(["b", "a", "c"], ["t", "u"]), ROWS), Facts(House(["b", "a", "c", "u"], ["t"]), ROWS),
            Facts(House(["b", "a", "c"], ["u", "t", "v"]), ROWS),
        ]
        for other in others:
            self.assertIs(facts == other, False)
            self.assertIs(facts != other, True)
        self.assertNotEqual(Facts(HOUSE), Facts(House(["b", "a", "c"])))

    def test_they_equal_nothing_else(self):
        facts = Facts(HOUSE)
        for thing in [*any_objects(), HOUSE, Tree(HOUSE, {}), (HOUSE, ())]:
            self.assertIs(facts == thing, False)
            self.assertIs(thing == facts, False)
            self.assertIs(facts != thing, True)
        self.assertIs(Facts(HOUSE, ROWS) == TOLD, False)
        self.assertIs(Facts(HOUSE, ROWS) == tuple(TOLD), False)


class WhatFactsCopy(FactsOfAHouse):
    def test_a_later_change_of_what_was_passed_changes_nothing(self):
        rows = [list(row) for row in ROWS]
        facts = Facts(HOUSE, rows)
        rows[0][2] = "c"
        rows.append(["below", "t", "b"])
        self.assertEqual(facts.told(), TOLD)
        self.assertEqual(len(facts), 4)

    def test_a_change_of_what_was_returned_changes_nothing(self):
        facts = Facts(HOUSE, ROWS)
        told = facts.told()
        told.append(("below", "t", "b"))
        told[0] = None
        self.assertEqual(facts.told(), TOLD)
        self.assertEqual(list(facts), TOLD)

    def test_what_is_passed_is_not_changed(self):
        rows = [["line", "a", "b"], ["line", "b", "a"]]
        facts = Facts(HOUSE, rows)
        self.assertIn(rows[0], facts)
        against(HOUSE, rows[0])
        self.assertEqual(rows, [["line", "a", "b"], ["line", "b", "a"]])


class WhatStandsAgainst(FactsOfAHouse):
    def test_of_a_below_the_not_and_of_a_not_the_below(self):
        self.assertEqual(against(HOUSE, ("below", "t", "a")), [("not", "t", "a")])
        self.assertEqual(against(HOUSE, ("not", "t", "a")), [("below", "t", "a")])
        self.assertEqual(against(HOUSE, ("below", "a", "b")), [("not", "a", "b")])
        self.assertEqual(against(HOUSE, ("not", "c", "b")), [("below", "c", "b")])

    def test_of_a_line_of_two_folders_two_nots_by_the_order_of_the_first_nodes(self):
        nots = [("not", "b", "a"), ("not", "a", "b")]
        self.assertEqual(against(HOUSE, ("line", "a", "b")), nots)
        self.assertEqual(against(HOUSE, ("line", "b", "a")), nots)

    def test_of_a_line_of_a_thing_and_a_folder_one_not(self):
        self.assertEqual(against(HOUSE, ("line", "t", "a")), [("not", "t", "a")])
        self.assertEqual(against(HOUSE, ("line", "a", "t")), [("not", "t", "a")])

    def test_of_a_line_of_two_things_none(self):
        self.assertEqual(against(HOUSE, ("line", "t", "u")), [])

    def test_they_hold_together_exactly_if_the_fact_does_not(self):
        house = House(["b", "a", "c"], ["t", "u"])
        trees = all_trees(house)
        for fact in all_facts(house):
            facts = Facts(house, against(house, fact))
            for tree in trees:
                self.assertIs(tree.keeps(facts), not tree.holds(fact))

    def test_a_new_list_of_tuples(self):
        for fact in (["line", "a", "b"], ("below", "t", "a"), ["not", "t", "a"]):
            told = against(HOUSE, fact)
            self.assertIs(type(told), list)
            for row in told:
                self.assertIs(type(row), tuple)
            told.append(None)
            self.assertNotIn(None, against(HOUSE, fact))

    def test_arguments_by_name(self):
        self.assertEqual(against(fact=("below", "t", "a"), house=HOUSE), [("not", "t", "a")])

    def test_what_is_no_fact(self):
        for thing in no_facts(HOUSE):
            self.wrong(0, against, HOUSE, thing)


if __name__ == "__main__":
    unittest.main()
