"""The limits, and some beyond: houses of 7 nodes with 16 facts ([15]: 5 nodes, [17]: 8 facts) are answered in a moment."""

import unittest
from time import perf_counter

from anything import all_facts
from looking import FULL, drawn
from whatopened.asking import alike, alone, follows, one_of, one_paper, paper, parted, table, verdict
from whatopened.counts import how_many, number_of, tree_number
from whatopened.desks import Desk
from whatopened.errors import Unfit
from whatopened.facts import Facts
from whatopened.fitting import is_topless, topless, tree_for
from whatopened.houses import House
from whatopened.moves import gains, harmless
from whatopened.quarrels import fewest_back, needless, quarrels
from whatopened.rights import can, copied, unlike, who, why_can
from whatopened.stops import lost, stops
from whatopened.stories import Story
from whatopened.texts import read, written
from whatopened.trials import fewest_asked, is_plan, plan, settles
from whatopened.wishes import as_much, covers, places
from worlds import PERSONS, VERBS, story_of, told_story

MOMENT = 3
FOLDERS = "abcdefg"
HOUSE = House(list(FOLDERS))
ORDER = [("below", one, other) for at, one in enumerate(FOLDERS) for other in FOLDERS[at + 1:]]
RING = [("below", one, FOLDERS[at - 1]) for at, one in enumerate(FOLDERS)]
LINES = [("line", one, other) for at, one in enumerate(FOLDERS) for other in FOLDERS[at + 1:]]
NOTS = [("not", one, other) for one in FOLDERS for other in FOLDERS if one != other]
BOTH_WAYS = [fact for word, one, other in ORDER for fact in ((word, one, other), (word, other, one))]
LISTS = [
    [], ORDER[:16], RING + LINES[:9], LINES[:16], NOTS[:16], NOTS[::-2][:16], BOTH_WAYS[:16], RING[:6] + NOTS[::4][:10],
    [*LINES[:6], *NOTS[::4][:10]], [*ORDER[:8], *BOTH_WAYS[-8:]],
]


class Timed(unittest.TestCase):
    def moment(self, call, *parts):
        """What the call tells, in a moment; None if no tree fits."""
        before = perf_counter()
        try:
            told = call(*parts)
        except Unfit:
            told = None
        self.assertLess(perf_counter() - before, MOMENT, call.__name__)
        return told


class InAMoment(Timed):
    def lists(self, most):
        """Houses of seven nodes and lists of facts about them."""
        drawn_ones = [(house, rows) for house in FULL for rows in drawn(house, 81, 12, most)]
        return [(HOUSE, rows[:most]) for rows in LISTS] + drawn_ones

    def test_what_fits(self):
        for house, rows in self.lists(16):
            facts = Facts(house, rows)
            self.moment(tree_for, facts)
            self.moment(topless, facts)
            self.moment(is_topless, facts, house.nodes)

    def test_what_is_asked(self):
        for house, rows in self.lists(16):
            facts = Facts(house, rows)
            pairs = [(house.nodes[-1], house.folders[0]), (house.folders[0], house.folders[1])] * 3
            for call in (verdict, paper):
                self.moment(call, facts, all_facts(house)[-1])
            for call in (one_of, one_paper):
                self.moment(call, facts, pairs)
            for call in (table, alone, needless):
                self.moment(call, facts)

    def test_what_follows(self):
        lists = [Facts(HOUSE, rows) for rows in LISTS]
        for facts in lists:
            for more in lists:
                self.moment(follows, facts, more)
                self.moment(parted, facts, more)
                self.moment(alike, facts, more)

    def test_trees_counted(self):
        house = House(list(FOLDERS[:5]))
        for rows in LISTS:
            rows = [row for row in rows if row[1] in house and row[2] in house]
            facts = Facts(house, rows)
            many = self.moment(how_many, facts)
            if many > 0:
                last = self.moment(tree_number, facts, many - 1)
                self.assertEqual(self.moment(number_of, facts, last), many - 1)

    def test_trees_of_seven_nodes_counted(self):
        facts = Facts(HOUSE)
        self.assertEqual(self.moment(how_many, facts), 8 ** 6)
        last = self.moment(tree_number, facts, 8 ** 6 - 1)
        self.assertEqual(self.moment(number_of, facts, last), 8 ** 6 - 1)

    def test_which_facts_quarrel(self):
        for house, rows in self.lists(8):
            self.moment(quarrels, Facts(house, rows))
            self.moment(fewest_back, Facts(house, rows))

    def test_which_of_some_more_facts_quarrel(self):
        for rows in LISTS:
            self.moment(quarrels, Facts(HOUSE, rows[:11]))
            self.moment(fewest_back, Facts(HOUSE, rows[:11]))

    def test_trials(self):
        for folders, things in (("abcde", ""), ("abc", "tu"), ("abcdefg", "")):
            house = House(list(folders), list(things))
            pairs = [(house.nodes[-1], "a"), ("a", "b"), ("b", "a"), ("c", "b"), ("b", "c")]
            for rows in [[row for row in rows if row[1] in house and row[2] in house] for rows in LISTS]:
                facts = Facts(house, rows)
                for fact in [("line", "a", "b"), ("below", house.nodes[-1], "b"), ("not", "b", "a"), ("below", "a", "c")]:
                    self.moment(settles, facts, fact, pairs[0])
                    self.moment(fewest_asked, facts, fact, pairs)
                    self.moment(is_plan, facts, fact, pairs, self.moment(plan, facts, fact, pairs))

    def test_wishes(self):
        for house, rows in self.lists(16):
            facts = Facts(house, rows)
            self.moment(places, facts, house.nodes, [])
            self.moment(covers, facts, house.nodes[1:], [])
            self.moment(covers, facts, house.nodes[-2:], house.nodes[:1])
            self.moment(as_much, facts, house.folders[:4], house.folders[3:])


def far_story(house, seed):
    """The story of 12 links and 30 deeds or so that comes out in a drawn tree of the house."""
    deeds, over = told_story(house, seed, 40)
    return story_of(house, deeds)


class StoriesInAMoment(Timed):
    def stories(self):
        return [far_story(house, seed) for house in (FULL[1], FULL[2]) for seed in range(5)]

    def test_many_deeds(self):
        for house in FULL:
            for seed in range(5):
                self.moment(far_story, house, seed)

    def test_a_long_chain_of_links(self):
        house, names = FULL[2], [first + second for first in "klmno" for second in "klmno"]
        story = Story(house).done(("link", names[0], "ann", "a", VERBS, None))
        for maker, name in zip(names, names[1:]):
            story = self.moment(story.done, ("narrow", name, maker, "ann", "a", VERBS, None))
        self.assertEqual(self.moment(can, story, "ann", "read", "t", 0), "open")
        self.assertEqual(self.moment(story.done, ("withdraw", "kk")).links(), [])

    def test_who_can(self):
        for story in self.stories():
            for thing in story.house.things:
                self.moment(who, story, "read", thing, 0)
                for person in PERSONS:
                    self.moment(why_can, story, person, "read", thing, 0)
                for name in story.links():
                    self.moment(copied, story, name, thing)
                    self.moment(unlike, story, name, thing)

    def test_moves(self):
        for story in self.stories():
            self.moment(harmless, story, 0)
            for thing in story.house.things:
                for folder in story.house.folders:
                    self.moment(gains, story, thing, folder, 0)

    def test_withdrawals(self):
        # Eight links of which all must go, and some more.
        for many in (8, 9):
            for house in (FULL[1], House(list("abcdef"), ["t"])):
                deeds = [("link", name, "ann", house.folders[at % 4], ["x"], None) for at, name in enumerate("klmnopqrs"[:many])]
                deeds += [("tried", "k", "x", "t", 0, True)]
                story = story_of(house, deeds)
                self.assertEqual(self.moment(lost, story, story.links()), story.links())
                self.assertEqual(len(self.moment(stops, story, ("ann", "x", "t", 0), [])[0]), many)
                kept = [("ann", "x", "t", day) for day in range(8)]
                self.assertEqual(self.moment(stops, story, ("bob", "x", "t", 0), kept), [()])
                self.assertEqual(self.moment(stops, story, ("ann", "x", "t", 8), kept), [])

    def test_desks(self):
        for house in FULL[1:]:
            deeds, over = told_story(house, 7, 30)
            desk = Desk(Story(house))
            for at, person in enumerate(PERSONS):
                desk.watch("abc"[at], (person, "x", house.things[at], 0))
            for deed in deeds:
                self.moment(desk.do, deed)
            for deed in deeds:
                self.moment(desk.undo)
            self.moment(desk.would, deeds)

    def test_texts(self):
        facts = Facts(HOUSE, BOTH_WAYS)
        self.assertEqual(self.moment(read, self.moment(written, facts)), facts)
        self.assertGreater(len(written(facts)), 400)


if __name__ == "__main__":
    unittest.main()
