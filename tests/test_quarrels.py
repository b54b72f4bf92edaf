"""Quarrels: [16], [17], and the conventions of [3] for them."""

import unittest
from itertools import combinations

from anything import all_facts
from looking import FULL, LARGER, SMALL, Looking, drawn, trees_of
from whatopened.facts import Facts
from whatopened.fitting import topless
from whatopened.houses import House
from whatopened.quarrels import fewest_back, needless, quarrels

HOUSE = House(["a", "b", "c"], ["t", "u"])
RING = [("below", "a", "b"), ("below", "b", "c"), ("below", "c", "a")]


def all_choices(many):
    """All ascending tuples of indexes below many, in the order of choices."""
    return [indexes for size in range(many + 1) for indexes in combinations(range(many), size)]


def left_out(rows, indexes):
    return [row for at, row in enumerate(rows) if at not in indexes]


class Quarrels(Looking):
    def told(self, house, rows):
        """The facts as they are told, so that indexes count in them."""
        return Facts(house, rows).told()


class WhatCouldBeLeftOut(Quarrels):
    def test_facts_that_follow_from_others(self):
        rows = [("below", "t", "a"), ("below", "t", "b"), ("below", "a", "b"), ("line", "u", "a")]
        self.assertEqual(needless(Facts(HOUSE, rows)), [1])
        self.assertEqual(needless(Facts(HOUSE, [*rows, ("not", "b", "a")])), [1, 2, 4])
        self.assertIs(type(needless(Facts(HOUSE, rows))), list)

    def test_each_alone_though_not_all_together(self):
        rows = [("line", "t", "a"), ("below", "t", "a"), ("not", "u", "a")]
        self.assertEqual(needless(Facts(HOUSE, rows)), [0, 1])

    def test_none(self):
        self.assertEqual(needless(Facts(HOUSE)), [])
        self.assertEqual(needless(Facts(House(["a"]))), [])
        self.assertEqual(needless(Facts(HOUSE, RING[:2])), [])

    def test_indexes_count_in_what_is_told(self):
        rows = [("line", "b", "a"), ("line", "a", "b"), ("below", "a", "b")]
        self.assertEqual(needless(Facts(HOUSE, rows)), [0])

    def test_drawn_facts_beside_all_trees(self):
        found = 0
        for house in (*SMALL, *LARGER):
            for rows in drawn(house, 61, 40, 9):
                rows, fitting = self.told(house, rows), trees_of(house).fitting(rows)
                facts = Facts(house, rows)
                if not fitting:
                    self.unfit(facts, needless, facts)
                    continue
                wanted = [at for at in range(len(rows)) if trees_of(house).fitting(left_out(rows, [at])) == fitting]
                self.assertEqual(needless(facts), wanted)
                found += len(wanted)
        self.assertGreater(found, 50)

    def test_facts_that_no_tree_fits(self):
        for rows in (RING, [("line", "t", "u")]):
            facts = Facts(HOUSE, rows)
            self.unfit(facts, needless, facts)

    def test_a_new_list_each_time(self):
        facts = Facts(HOUSE, [("line", "b", "a"), ("below", "a", "b")])
        needless(facts).append(7)
        self.assertEqual(needless(facts=facts), [0])


class WhichFactsQuarrel(Quarrels):
    def test_facts_that_some_tree_fits(self):
        for rows in ([], RING[:2], [("below", "t", "a"), ("line", "t", "b")]):
            self.assertEqual(quarrels(Facts(HOUSE, rows)), [])
            self.assertEqual(fewest_back(Facts(HOUSE, rows)), [()])

    def test_one_fact_alone(self):
        rows = [("below", "t", "a"), ("line", "t", "u"), ("not", "t", "a")]
        self.assertEqual(quarrels(Facts(HOUSE, rows)), [(1,), (0, 2)])
        self.assertEqual(fewest_back(Facts(HOUSE, rows)), [(0, 1), (1, 2)])

    def test_a_ring(self):
        self.assertEqual(quarrels(Facts(HOUSE, RING)), [(0, 1, 2)])
        self.assertEqual(fewest_back(Facts(HOUSE, RING)), [(0,), (1,), (2,)])

    def test_shorter_ones_stand_first_then_those_with_an_earlier_unlike_index(self):
        rows = [*RING, ("not", "t", "a"), ("not", "a", "b"), ("below", "t", "a"), ("not", "b", "c")]
        self.assertEqual(quarrels(Facts(HOUSE, rows)), [(0, 4), (1, 6), (3, 5), (0, 1, 2)])
        self.assertEqual(fewest_back(Facts(HOUSE, rows)), [(0, 1, 3), (0, 1, 5), (0, 3, 6), (0, 5, 6), (1, 3, 4), (1, 4, 5)])

    def test_lists_of_tuples(self):
        for call in (quarrels, fewest_back):
            told = call(Facts(HOUSE, RING))
            self.assertIs(type(told), list)
            for indexes in told:
                self.assertIs(type(indexes), tuple)
            told.clear()
            self.assertNotEqual(call(facts=Facts(HOUSE, RING)), [])

    def test_drawn_facts_beside_all_trees(self):
        lengths = set()
        for house in (*SMALL, *LARGER):
            for rows in drawn(house, 71, 24, 7):
                rows = self.told(house, rows)[:7]
                fits = {row: bool(trees_of(house).fitting([rows[at] for at in row])) for row in all_choices(len(rows))}
                bad = [row for row in fits if not fits[row]]
                wanted = [row for row in bad if all(fits[tuple(one for one in row if one != at)] for at in row)]
                self.assertEqual(quarrels(Facts(house, rows)), wanted)
                every = range(len(rows))
                back = [row for row in fits if fits[tuple(at for at in every if at not in row)]]
                self.assertEqual(fewest_back(Facts(house, rows)), [row for row in back if len(row) == len(back[0])])
                lengths |= {len(row) for row in wanted} | {-len(back[0])}
        self.assertLessEqual({1, 2, 3, -1, -2, 0}, lengths)

    def test_drawn_facts_of_seven_nodes(self):
        for house in FULL:
            for rows in drawn(house, 72, 15, 8):
                facts = Facts(house, self.told(house, rows)[:8])
                found, back = quarrels(facts), fewest_back(facts)
                self.assertEqual(found == [], topless(facts) is None)
                for indexes in back:
                    self.assertIs(all(set(indexes) & set(one) for one in found), True)
                    self.assertIs(topless(facts.without(indexes)), None)
                for one in found:
                    others = [at for at in range(len(facts)) if at not in one]
                    self.assertIsNot(topless(facts.without(others)), None)
                    for at in one:
                        self.assertIs(topless(facts.without([*others, at])), None)

    def test_the_same_call_tells_the_same_and_changes_nothing(self):
        for rows in drawn(HOUSE, 73, 15, 6):
            self.same_again(HOUSE, rows, quarrels)
            self.same_again(HOUSE, rows, fewest_back)

    def test_all_pairs_of_facts_of_a_small_house(self):
        house = House(["b", "a"], ["t"])
        every = Facts(house, all_facts(house)).told()
        for rows in combinations(every, 2):
            wanted = [] if trees_of(house).fitting(rows) else [(0, 1)]
            self.assertEqual(quarrels(Facts(house, rows)), wanted)


if __name__ == "__main__":
    unittest.main()
