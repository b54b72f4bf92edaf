"""Moves: [29], and the conventions of [3] and [4] for them."""

import unittest
from itertools import product

from anything import any_objects
from looking import LARGER
from whatopened.errors import BadDay, NoFolder, NoThing
from whatopened.houses import House
from whatopened.moves import gains, harmless
from whatopened.stories import Story
from worlds import InWorlds, snapshot, story_of, told_story, word_of, worlds_of

HOUSE = House(["b", "a", "c"], ["u", "t"])
NO_DAYS = [thing for thing in any_objects() if isinstance(thing, bool) or not isinstance(thing, int)]
# bob holds a link at a, ann one at b, which lies below a; t lies below a, and not below b; c does not lie below a.
BASE = [
    ("link", "k", "bob", "a", ["read", "send"], 5), ("narrow", "l", "k", "ann", "b", ["read"], 3),
    ("tried", "k", "read", "t", 0, True), ("tried", "l", "read", "t", 0, False), ("link", "m", "bob", "a", ["x"], -1),
    ("move", "u", "c"), ("tried", "k", "read", "u", 0, False),
]


def pairs_now(world, day):
    """The pairs (person, verb), ascending, of what persons' links let on a day."""
    links = [(link["person"], verb, name) for name, link in world.links.items() for verb in link["verbs"]]
    return sorted({(person, verb) for person, verb, name in links if world.lets(name, verb, day)})


def gained(world, person, verb, thing, folder, day):
    """Whether, in a world, a person cannot, and can as soon as the thing is moved."""
    behind = world.copy()
    behind.over[thing] = folder
    return not world.can(person, verb, thing, day) and behind.can(person, verb, thing, day)


class WhoGains(InWorlds):
    def test_the_three_verdicts(self):
        story = story_of(HOUSE, BASE)
        told = gains(story, "t", "b", 0)
        self.assertIs(type(told), dict)
        self.assertEqual(list(told.items()), [(("ann", "read"), "sure"), (("bob", "read"), "never"), (("bob", "send"), "never")])
        self.assertEqual(gains(story, "t", "c", 0), {("ann", "read"): "never", ("bob", "read"): "never", ("bob", "send"): "never"})
        self.assertEqual(gains(story, "u", "a", 0), {("ann", "read"): "never", ("bob", "read"): "sure", ("bob", "send"): "sure"})
        self.assertEqual(gains(story, "u", "b", 0), {("ann", "read"): "sure", ("bob", "read"): "sure", ("bob", "send"): "sure"})
        story = Story(HOUSE).done(BASE[0])
        self.assertEqual(gains(story, "t", "b", 0), {("bob", "read"): "open", ("bob", "send"): "open"})

    def test_only_what_is_let_on_the_day(self):
        story = story_of(HOUSE, BASE)
        self.assertEqual(list(gains(story, "t", "b", -1)), [("ann", "read"), ("bob", "read"), ("bob", "send"), ("bob", "x")])
        self.assertEqual(list(gains(story, "t", "b", 4)), [("bob", "read"), ("bob", "send")])
        self.assertEqual(gains(story, "t", "b", 6), {})

    def test_nobody_holds_a_link(self):
        self.assertEqual(gains(Story(HOUSE), "t", "a", 0), {})
        self.assertEqual(gains(story_of(HOUSE, BASE).done(("withdraw", "k")), "t", "a", 0), {})

    def test_a_verb_that_a_maker_lets_no_more(self):
        story = story_of(HOUSE, [*BASE, ("shorten", "k", ["send"], 5)])
        self.assertEqual(list(gains(story, "t", "b", 0)), [("bob", "send")])

    def test_moved_to_where_it_is(self):
        story = story_of(HOUSE, BASE)
        for folder in HOUSE.folders:
            behind = story.done(("move", "t", folder))
            self.assertEqual(set(gains(behind, "t", folder, 0).values()), {"never"})

    def test_by_several_links_of_one_person(self):
        deeds = [("link", folder, "ann", folder, ["x"], None) for folder in ("b", "c")]
        story = story_of(HOUSE, [*deeds, ("move", "t", "c"), ("tried", "b", "x", "u", 0, False), ("tried", "c", "x", "u", 0, False)])
        self.assertEqual(gains(story, "t", "b", 0), {("ann", "x"): "never"})
        self.assertEqual(gains(story, "u", "b", 0), {("ann", "x"): "sure"})
        self.assertEqual(gains(story, "u", "a", 0), {("ann", "x"): "open"})

    def test_the_move_of_another_thing_is_not_asked(self):
        story = story_of(HOUSE, BASE)
        self.assertEqual(gains(story, "t", "b", 0), gains(story.done(("move", "u", "b")), "t", "b", 0))

    def test_drawn_stories_beside_all_worlds(self):
        words = []
        for story, deeds, worlds in self.drawn_stories(1000, 12, 24):
            house = story.house
            for thing, folder, day in product(house.things, house.folders, (0, 5)):
                told = gains(story, thing, folder, day)
                self.assertEqual(list(told), pairs_now(worlds[0][0], day))
                for (person, verb), word in told.items():
                    answers = [gained(world, person, verb, thing, folder, day) for world, over in worlds]
                    self.assertEqual(word, word_of(answers))
                    words.append(word)
        for word, many in (("sure", 20), ("never", 100), ("open", 100)):
            self.assertGreater(words.count(word), many, word)

    def test_what_is_told_holds_in_the_true_tree(self):
        for seed in range(1100, 1112):
            deeds, over = told_story(LARGER[0], seed, 30)
            [[world, same]] = worlds_of(LARGER[0], deeds, [over])
            story = story_of(LARGER[0], deeds)
            for thing, folder in product(story.house.things, story.house.folders):
                for (person, verb), word in gains(story, thing, folder, 0).items():
                    answer = gained(world, person, verb, thing, folder, 0)
                    self.assertIn(word, {True: ("sure", "open"), False: ("never", "open")}[answer])

    def test_what_is_told_holds_behind_the_move(self):
        for story, deeds, worlds in self.drawn_stories(1200, 3, 20):
            for thing, folder in product(story.house.things, story.house.folders):
                told = gains(story, thing, folder, 0)
                self.assertEqual(list(gains(story.done(("move", thing, folder)), thing, folder, 0)), list(told))

    def test_a_new_dict_each_time_and_nothing_changed(self):
        story = story_of(HOUSE, BASE)
        before = snapshot(story)
        gains(story, "t", "b", 0).clear()
        self.assertEqual(len(gains(day=0, folder="b", thing="t", story=story)), 3)
        self.assertEqual(snapshot(story), before)

    def test_wrong_arguments(self):
        story = story_of(HOUSE, BASE)
        for thing in [*any_objects(), "a", "x", "k", ("t",)]:
            self.raised(NoThing, "thing", thing, gains, story, thing, "a", 0)
        for thing in [*any_objects(), "t", "x", ("a",)]:
            self.raised(NoFolder, "folder", thing, gains, story, "t", thing, 0)
        for thing in NO_DAYS:
            self.raised(BadDay, "day", thing, gains, story, "t", "a", thing)
        choices = [
            [("t", None, None), ("a", NoThing, "thing"), ({}, NoThing, "thing")],
            [("a", None, None), ("t", NoFolder, "folder"), ([], NoFolder, "folder")],
            [(3, None, None), (None, BadDay, "day"), (False, BadDay, "day")],
        ]
        for one in (story, Story(HOUSE)):
            self.first_of(gains, one, choices)


class WhatIsHarmless(InWorlds):
    def test_moves_by_which_nobody_gains(self):
        story = story_of(HOUSE, BASE)
        self.assertEqual(harmless(story, 0), [("u", "c"), ("t", "a"), ("t", "c")])
        self.assertEqual(harmless(story, 4), [("u", "c"), ("t", "b"), ("t", "a"), ("t", "c")])
        every = [(thing, folder) for thing in ("u", "t") for folder in ("b", "a", "c")]
        self.assertEqual(harmless(story, 6), every)
        self.assertEqual(harmless(Story(HOUSE), 0), every)
        self.assertEqual(harmless(Story(HOUSE).done(BASE[0]), 0), [])

    def test_of_a_house_without_things(self):
        self.assertEqual(harmless(Story(House(["a"])), 0), [])

    def test_drawn_stories_beside_all_worlds(self):
        found = []
        for story, deeds, worlds in self.drawn_stories(1300, 12, 24):
            for day in (0, 5):
                told = harmless(story, day)
                self.assertIs(type(told), list)
                wanted = []
                for thing, folder in product(story.house.things, story.house.folders):
                    pairs = pairs_now(worlds[0][0], day)
                    if not any(gained(world, *pair, thing, folder, day) for world, over in worlds for pair in pairs):
                        wanted.append((thing, folder))
                self.assertEqual(told, wanted)
                self.assertEqual(told, [pair for pair in product(story.house.things, story.house.folders)
                                        if set(gains(story, *pair, day).values()) <= {"never"}])
                found.append(len(told) / (len(story.house.things) * len(story.house.folders)))
        self.assertGreater(len([part for part in found if 0 < part < 1]), 20)

    def test_a_new_list_each_time_and_nothing_changed(self):
        story = story_of(HOUSE, BASE)
        before = snapshot(story)
        harmless(story, 0).clear()
        self.assertEqual(len(harmless(day=0, story=story)), 3)
        self.assertEqual(snapshot(story), before)

    def test_wrong_days(self):
        for story in (Story(HOUSE), story_of(HOUSE, BASE)):
            for thing in NO_DAYS:
                self.raised(BadDay, "day", thing, harmless, story, thing)


if __name__ == "__main__":
    unittest.main()
