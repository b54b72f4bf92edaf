"""Trials: [18], [19], and the conventions of [3] for them."""

import unittest
from itertools import permutations, product
from random import Random

from anything import all_facts, any_objects, no_facts, no_lists
from looking import LARGER, SMALL, Looking, drawn, trees_of
from whatopened.asking import verdict
from whatopened.errors import BadFact, BadPair
from whatopened.facts import Facts, against
from whatopened.houses import House
from whatopened.trials import fewest_asked, is_plan, plan, settles

HOUSE = House(["a", "b", "c"], ["t", "u"])
UNFIT = Facts(HOUSE, [("below", "t", "a"), ("below", "a", "b"), ("line", "c", "u"), ("below", "b", "a")])
# Where one of a and b lies below the other one, and neither below c nor above it.
EITHER = Facts(HOUSE, [("line", "a", "b"), ("not", "c", "a"), ("not", "c", "b"), ("not", "a", "c"), ("not", "b", "c")])


def pairs_of(house):
    """All pairs of unlike nodes, the second one a folder."""
    return [(node, folder) for node in house.nodes for folder in house.folders if node != folder]


class Known:
    """What trials could do, told by the sets of the trees that are left."""

    def __init__(self, house, fact, pairs):
        self.trees = trees_of(house)
        self.fact = fact
        self.pairs = pairs

    def split(self, left, pair):
        """The numbers of the trees in which the pair does not lie so, and those in which it does."""
        yes = [at for at in left if ("below", *pair) in self.trees.kept[at]]
        return [at for at in left if at not in yes], yes

    def word(self, left):
        return {(True,): "sure", (False,): "never"}.get(tuple({self.fact in self.trees.kept[at] for at in left}), "open")

    def fewest(self, left, most):
        """The least number of trials, None if more than most are needed."""
        if self.word(left) != "open":
            return 0
        if most == 0:
            return None
        found = []
        for pair in self.pairs:
            no, yes = self.split(left, pair)
            if no and yes:
                found.append([self.fewest(part, most - 1) for part in (no, yes)])
        return min([1 + max(parts) for parts in found if None not in parts], default=None)

    def asks(self, left, thing):
        """How many trials a plan asks one behind the other, None if it is none; thing is a word or a tuple of three."""
        if self.word(left) != "open" or not isinstance(thing, tuple):
            return 0 if thing == self.word(left) and thing != "open" else None
        at, *parts = thing
        split = self.split(left, self.pairs[at]) if 0 <= at < len(self.pairs) else [[], []]
        if not split[0] or not split[1]:
            return None
        asked = [self.asks(*one) for one in zip(split, parts)]
        return None if None in asked else 1 + max(asked)


def as_lists(thing):
    """The plan with lists in place of tuples."""
    return [as_lists(part) for part in thing] if isinstance(thing, tuple) else thing


class Trials(Looking):
    def lists(self, seed, many, most):
        """Houses of at most five nodes, and facts that some tree fits."""
        for house in (*SMALL[1:], *LARGER):
            for rows in drawn(house, seed, many, most):
                if trees_of(house).fitting(rows):
                    yield house, rows

    def unfit_or_wrong(self, call, last=()):
        """The errors that fewest_asked, plan and is_plan have in common."""
        facts = Facts(HOUSE, [("below", "t", "a")])
        for told in (facts, UNFIT):
            for thing in no_facts(HOUSE):
                self.raised(BadFact, "index", 0, call, told, thing, [("t", "b")], *last)
                self.raised(BadFact, "index", 0, call, told, thing, [("t", "u")], *last)
                self.raised(BadFact, "index", 0, call, told, thing, None, *last)
            for thing in [*no_lists(), "ta", {("t", "a"): 1}, HOUSE]:
                self.raised(BadPair, "index", 0, call, told, ("below", "u", "a"), thing, *last)
            for thing in any_objects() + [("t",), ("a", "t"), ("t", "t"), ("t", "x"), ("below", "t", "a"), "ta"]:
                self.raised(BadPair, "index", 0, call, told, ("below", "u", "a"), [thing, None], *last)
                self.raised(BadPair, "index", 2, call, told, ("below", "u", "a"), [["t", "a"], ("b", "a"), thing], *last)
        for pairs in ([], [("t", "a"), ("t", "b")]):
            self.unfit(UNFIT, call, UNFIT, ("below", "u", "a"), pairs, *last)
        self.assertEqual(facts, Facts(HOUSE, [("below", "t", "a")]))


class WhatATrialSettles(Trials):
    def test_the_pair_of_the_fact_itself(self):
        facts = Facts(HOUSE, [("below", "t", "a")])
        for pair in pairs_of(HOUSE):
            self.assertIs(settles(facts, ("below", *pair), pair), True)
            self.assertIs(settles(facts, ("not", *pair), pair), True)

    def test_a_line(self):
        self.assertIs(settles(Facts(HOUSE), ("line", "a", "b"), ("a", "b")), False)
        self.assertIs(settles(Facts(HOUSE, [("not", "b", "a")]), ("line", "a", "b"), ("a", "b")), True)
        self.assertIs(settles(Facts(HOUSE), ("line", "a", "t"), ("t", "a")), True)

    def test_a_fact_that_is_sure_or_never_so_anyhow(self):
        facts = Facts(HOUSE, [("below", "t", "a"), ("not", "u", "b")])
        for pair in pairs_of(HOUSE):
            for fact in (("below", "t", "a"), ("not", "t", "a"), ("below", "u", "b"), ("line", "t", "u")):
                self.assertIs(settles(facts, fact, pair), True)

    def test_a_pair_that_is_known_settles_nothing(self):
        facts = Facts(HOUSE, [("below", "t", "a"), ("not", "t", "b")])
        for pair in (("t", "a"), ("t", "b"), ("a", "b")):
            self.assertIs(settles(facts, ("below", "u", "a"), pair), False)

    def test_drawn_facts_beside_all_trees(self):
        answers = []
        for house, rows in self.lists(101, 10, 8):
            for pair in pairs_of(house)[::1 + len(house) // 3]:
                for fact in all_facts(house)[len(rows) % 4::1 + len(house) // 2]:
                    known = Known(house, fact, [pair])
                    parts = known.split(trees_of(house).fitting(rows), pair)
                    wanted = all(known.word(part) != "open" for part in parts if part)
                    answers.append(settles(Facts(house, rows), fact, pair))
                    self.assertIs(answers[-1], wanted)
        self.assertGreater(answers.count(True), 500)
        self.assertGreater(answers.count(False), 500)

    def test_lists_in_place_of_tuples_and_arguments_by_name(self):
        fact, pair = ["line", "b", "a"], ["b", "a"]
        self.assertIs(settles(pair=pair, fact=fact, facts=Facts(HOUSE)), False)
        self.assertIs(settles(pair=pair, fact=fact, facts=Facts(HOUSE, [["not", "a", "b"]])), True)
        self.assertEqual((fact, pair), (["line", "b", "a"], ["b", "a"]))

    def test_wrong_arguments(self):
        facts = Facts(HOUSE, [("below", "t", "a")])
        for told in (facts, UNFIT):
            for thing in no_facts(HOUSE):
                self.raised(BadFact, "index", 0, settles, told, thing, ("t", "b"))
                self.raised(BadFact, "index", 0, settles, told, thing, thing)
            for thing in any_objects() + [("t",), ("a", "t"), ("t", "t"), ("t", "x"), ("below", "t", "a"), "ta",
                                          [("t", "a")], {"t": 1, "a": 2}, House(["t", "a"])]:
                self.raised(BadPair, "index", 0, settles, told, ("below", "t", "a"), thing)
        self.unfit(UNFIT, settles, UNFIT, ("below", "t", "a"), ("t", "a"))
        self.assertEqual(facts.told(), [("below", "t", "a")])


class HowManyAreAsked(Trials):
    def test_nothing_need_be_asked(self):
        facts = Facts(HOUSE, [("below", "t", "a")])
        for pairs in ([], [("t", "b"), ("u", "b")]):
            self.assertEqual(fewest_asked(facts, ("below", "t", "a"), pairs), 0)
            self.assertEqual(fewest_asked(facts, ("not", "t", "a"), pairs), 0)
            self.assertEqual(plan(facts, ("below", "t", "a"), pairs), "sure")
            self.assertEqual(plan(facts, ("line", "t", "u"), pairs), "never")

    def test_no_pairs_settle_it(self):
        for pairs in ([], [("t", "b")], [("t", "b"), ("u", "a"), ("a", "b")]):
            self.assertIs(fewest_asked(Facts(HOUSE), ("below", "t", "a"), pairs), None)
            self.assertIs(plan(Facts(HOUSE), ("below", "t", "a"), pairs), None)

    def test_the_fewest_of_several_ways(self):
        fact = ("below", "t", "c")
        facts = EITHER + [("line", "t", "c"), ("below", "u", "a")]
        self.assertEqual(fewest_asked(facts, fact, [("t", "a")]), 0)
        self.assertEqual(fewest_asked(EITHER, fact, [("t", "a"), ("t", "b"), ("t", "c")]), 1)
        self.assertIs(fewest_asked(EITHER, fact, [("t", "a"), ("t", "b")]), None)
        self.assertEqual(plan(EITHER, fact, [("t", "a"), ("t", "b"), ("t", "c")]), (2, "never", "sure"))

    def test_one_behind_the_other(self):
        # The first answer tells what to ask next.
        pairs = [("a", "b"), ("b", "a")]
        self.assertEqual(fewest_asked(Facts(HOUSE), ("line", "a", "b"), pairs), 2)
        self.assertIn(plan(Facts(HOUSE), ("line", "a", "b"), pairs),
                      [(0, (1, "never", "sure"), "sure"), (1, (0, "never", "sure"), "sure")])

    def test_the_same_pair_twice(self):
        pairs = [("a", "b"), ("a", "b"), ("b", "a"), ("b", "a")]
        self.assertEqual(fewest_asked(Facts(HOUSE), ("line", "a", "b"), pairs), 2)
        self.assertIs(fewest_asked(Facts(HOUSE), ("line", "a", "b"), pairs[:2]), None)
        told = plan(Facts(HOUSE), ("line", "a", "b"), pairs)
        self.assertEqual(is_plan(Facts(HOUSE), ("line", "a", "b"), pairs, told), 2)

    def test_drawn_facts_beside_all_trees(self):
        found = []
        draw = Random(102)
        # It seems that two trials always do where any do: a search through small houses found no third one.
        for house, rows in self.lists(103, 40, 6):
            facts, fact = Facts(house, rows), draw.choice(all_facts(house))
            near = [pair for pair in pairs_of(house) if set(pair) & set(fact)]
            pairs = draw.sample(near, min(4, len(near)))
            known = Known(house, fact, pairs)
            fitting = trees_of(house).fitting(rows)
            wanted = known.fewest(fitting, len(pairs))
            found.append(fewest_asked(facts, fact, pairs))
            self.assertEqual(found[-1], wanted)
            told = plan(facts, fact, pairs)
            self.assertEqual(told is None, wanted is None)
            if told is not None:
                self.is_plain(told)
                self.assertEqual(known.asks(fitting, told), wanted)
                self.assertEqual(is_plan(facts, fact, pairs, told), wanted)
            self.assertEqual(facts, Facts(house, rows))
        for many in (None, 0, 1, 2):
            self.assertGreater(found.count(many), 5, many)

    def is_plain(self, thing):
        """The plan consists of words and tuples of an index and two plans."""
        if not isinstance(thing, str):
            self.assertIs(type(thing), tuple)
            at, no, yes = thing
            self.assertIs(type(at), int)
            self.is_plain(no)
            self.is_plain(yes)

    def test_all_pairs_together_settle_it_or_nothing_does(self):
        for house, rows in self.lists(104, 6, 5):
            facts = Facts(house, rows)
            for fact in all_facts(house)[::9]:
                pairs = pairs_of(house)[:4]
                words = set()
                for signs in range(2 ** len(pairs)):
                    told = [("below" if signs >> at & 1 else "not", *pair) for at, pair in enumerate(pairs)]
                    if trees_of(house).fitting([*rows, *told]):
                        words.add(verdict(facts + told, fact) == "open")
                self.assertEqual(fewest_asked(facts, fact, pairs) is None, True in words)

    def test_the_same_call_tells_the_same(self):
        pairs = [("a", "b"), ("b", "a"), ("t", "a"), ("t", "b")]
        for house, rows in [(HOUSE, rows) for rows in drawn(HOUSE, 105, 20, 4) if trees_of(HOUSE).fitting(rows)]:
            for fact in (("line", "a", "b"), ("below", "t", "a")):
                self.same_again(house, rows, lambda facts: plan(facts, fact, pairs))
                self.same_again(house, rows, lambda facts: fewest_asked(facts, fact, pairs))

    def test_lists_in_place_of_tuples_and_arguments_by_name(self):
        pairs, fact = (["a", "b"], ("b", "a")), ["line", "b", "a"]
        self.assertEqual(fewest_asked(pairs=pairs, fact=fact, facts=Facts(HOUSE)), 2)
        told = plan(pairs=pairs, fact=fact, facts=Facts(HOUSE))
        self.assertEqual(is_plan(thing=told, pairs=pairs, fact=fact, facts=Facts(HOUSE)), 2)
        self.assertEqual((pairs, fact), ((["a", "b"], ("b", "a")), ["line", "b", "a"]))

    def test_wrong_arguments(self):
        self.unfit_or_wrong(fewest_asked)
        self.unfit_or_wrong(plan)


class WhatIsAPlan(Trials):
    def asks(self, wanted, facts, fact, pairs, thing):
        """is_plan tells this number of any object, also with lists for its tuples."""
        for one in (thing, as_lists(thing)):
            told = is_plan(facts, fact, pairs, one)
            self.assertEqual(told, wanted)
            self.assertIs(type(told), type(wanted))

    def test_words(self):
        facts = Facts(HOUSE, [("below", "t", "a")])
        for fact, word, other in ((("below", "t", "a"), "sure", "never"), (("not", "t", "a"), "never", "sure")):
            self.asks(0, facts, fact, [], word)
            self.asks(0, facts, fact, [("t", "b")], word)
            for thing in (other, "open", (word,), (0, word, word), "Sure", ""):
                self.asks(None, facts, fact, [("t", "b")], thing)
        for word in ("sure", "never", "open"):
            self.asks(None, facts, ("below", "u", "a"), [("u", "a")], word)

    def test_what_asks_more_than_need_be_is_a_plan_too(self):
        pairs = [("t", "b"), ("t", "a"), ("u", "b")]
        fact = ("below", "t", "a")
        short = (1, "never", "sure")
        self.asks(1, Facts(HOUSE), fact, pairs, short)
        self.asks(2, Facts(HOUSE), fact, pairs, (0, short, short))
        self.asks(3, Facts(HOUSE), fact, pairs, (0, short, (2, short, short)))
        self.asks(3, Facts(HOUSE), fact, pairs, (2, (0, short, short), short))

    def test_what_is_none(self):
        pairs = [("t", "b"), ("t", "a"), ("a", "b")]
        fact = ("below", "t", "a")
        short = (1, "never", "sure")
        wrong = [
            (1, "sure", "never"), (1, "never", "never"), (1, "never"), (1, "never", "sure", "sure"), (1,), (),
            (True, "never", "sure"), ("1", "never", "sure"), (-2, "never", "sure"), (4, "never", "sure"), (3, short, short),
            (0, "never", "sure"), (0, short, "sure"), (0, "never", short), (1, short, short), (1, "never", (0, "sure", "sure")),
            (0, (0, short, short), short), {1: "never", 0: "sure"}, ("never", 1, "sure"), (None, "never", "sure"),
            (1, "open", "sure"), (1, None, "sure"),
        ]
        for thing in wrong:
            self.asks(None, Facts(HOUSE), fact, pairs, thing)

    def test_a_pair_that_is_not_open_is_not_asked(self):
        facts = Facts(HOUSE, [("below", "a", "b")])
        short = (1, "never", "sure")
        pairs = [("a", "b"), ("t", "a"), ("b", "a"), ("t", "b")]
        for at, parts in product((0, 2), product(("sure", "never", short), repeat=2)):
            self.asks(None, facts, ("below", "t", "a"), pairs, (at, *parts))
        # Behind yes to a it is sure that b is so, too.
        self.asks(None, facts, ("below", "t", "a"), pairs, (1, "never", (3, "sure", "sure")))
        self.asks(2, facts, ("below", "t", "a"), pairs, (3, "never", short))

    def test_any_objects(self):
        facts, fact, pairs = Facts(HOUSE), ("below", "t", "a"), [("t", "a"), ("t", "b")]
        for thing in any_objects():
            self.assertIs(is_plan(facts, fact, pairs, thing), None)
            if thing is False or thing != 0:
                self.assertIs(is_plan(facts, fact, pairs, (thing, "never", "sure")), None)
            self.assertIs(is_plan(facts, fact, pairs, (0, thing, "sure")), None)
            self.assertIs(is_plan(facts, fact, pairs, [0, "never", thing]), None)
            self.assertIs(is_plan(facts, fact, pairs, [thing, thing, thing]), None)
            self.assertIs(is_plan(facts + [fact], fact, pairs, thing), None)

    def test_drawn_plans_beside_all_trees(self):
        draw = Random(106)
        found = []
        for house, rows in self.lists(107, 12, 6):
            facts, fact = Facts(house, rows), draw.choice(all_facts(house))
            pairs = draw.sample(pairs_of(house), min(4, len(pairs_of(house))))
            known, fitting = Known(house, fact, pairs), trees_of(house).fitting(rows)
            for turn in range(12):
                thing = self.drawn_plan(draw, known, fitting)
                found.append(known.asks(fitting, thing))
                self.asks(found[-1], facts, fact, pairs, thing)
        for many in (None, 0, 1, 2, 3):
            self.assertGreater(found.count(many), 2, many)

    def drawn_plan(self, draw, known, left):
        """A plan that mostly does what it should."""
        if draw.random() < 0.04:
            return draw.choice(["sure", "never", (0, "never", "sure"), (9, "never", "sure")])
        if known.word(left) != "open":
            return known.word(left)
        able = [at for at, pair in enumerate(known.pairs) if all(known.split(left, pair))]
        if not able:
            return draw.choice(["sure", "never"])
        at = draw.choice(able)
        return (at, *[self.drawn_plan(draw, known, part) for part in known.split(left, known.pairs[at])])

    def test_all_orders_of_what_is_asked(self):
        pairs = [("a", "b"), ("b", "a"), ("t", "c")]
        fact = ("line", "a", "b")
        for first, second, third in permutations(range(3)):
            known = Known(HOUSE, fact, pairs)
            fitting = trees_of(HOUSE).fitting([])
            thing = (first, (second, (third, "never", "sure"), "sure"), (third, "sure", "sure"))
            self.asks(known.asks(fitting, thing), Facts(HOUSE), fact, pairs, thing)

    def test_wrong_arguments(self):
        for thing in ("sure", None):
            self.unfit_or_wrong(is_plan, (thing,))


class TheFactsAgainst(Trials):
    def test_trials_settle_a_fact_as_they_settle_what_is_against_it(self):
        pairs = pairs_of(HOUSE)[:4]
        for rows in drawn(HOUSE, 108, 6, 5):
            if trees_of(HOUSE).fitting(rows):
                for fact in all_facts(HOUSE):
                    if fact[0] != "line":
                        [other] = against(HOUSE, fact)
                        one = fewest_asked(Facts(HOUSE, rows), fact, pairs)
                        self.assertEqual(fewest_asked(Facts(HOUSE, rows), other, pairs), one)


if __name__ == "__main__":
    unittest.main()
