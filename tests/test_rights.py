"""Who can: [26] to [28], and the conventions of [3] and [4] for them."""

import unittest
from itertools import product

from anything import any_objects
from looking import LARGER
from whatopened.errors import BadDay, BadName, NoLink, NoThing
from whatopened.houses import House
from whatopened.rights import can, copied, unlike, who, why_can
from whatopened.stories import Story
from worlds import PERSONS, VERBS, InWorlds, snapshot, story_of, told_story, word_of, worlds_of

HOUSE = House(["b", "a", "c"], ["u", "t"])
NO_DAYS = [thing for thing in any_objects() if isinstance(thing, bool) or not isinstance(thing, int)]


class WhoCan(InWorlds):
    BASE = [
        ("link", "k", "ann", "a", ["read", "send"], 5), ("narrow", "l", "k", "bob", "b", ["read"], 3),
        ("tried", "l", "read", "t", 3, True), ("link", "m", "cy", "c", ["read"], None),
        ("tried", "m", "read", "t", 0, False),
    ]

    def test_the_three_verdicts(self):
        story = story_of(HOUSE, self.BASE)
        self.assertEqual(can(story, "bob", "read", "t", 3), "sure")
        self.assertEqual(can(story, "ann", "send", "t", 5), "sure")
        self.assertEqual(can(story, "cy", "read", "t", 0), "never")
        self.assertEqual(can(story, "cy", "read", "u", 0), "open")

    def test_without_any_link_that_lets_it(self):
        story = story_of(HOUSE, self.BASE)
        for person, verb, day in (("bob", "send", 0), ("bob", "read", 4), ("ann", "send", 6), ("dee", "read", 0)):
            for thing in HOUSE.things:
                self.assertEqual(can(story, person, verb, thing, day), "never")
                self.assertEqual(why_can(story, person, verb, thing, day), [])
        self.assertEqual(can(Story(HOUSE), "ann", "read", "t", 0), "never")
        self.assertEqual(why_can(Story(HOUSE), "ann", "read", "t", 0), [])

    def test_the_last_day(self):
        story = story_of(HOUSE, self.BASE)
        self.assertEqual([can(story, "bob", "read", "t", day) for day in (-999999999, 2, 3, 4, 999999999)],
                         ["sure", "sure", "sure", "never", "never"])
        self.assertEqual([can(story, "cy", "read", "u", day) for day in (-999999999, 999999999)], ["open", "open"])

    def test_a_withdrawn_link(self):
        story = story_of(HOUSE, self.BASE).done(("withdraw", "k"))
        self.assertEqual(can(story, "bob", "read", "t", 3), "never")
        self.assertEqual(can(story, "ann", "read", "t", 3), "never")

    def test_a_link_that_was_passed_on(self):
        story = story_of(HOUSE, self.BASE).done(("pass", "l", "dee"))
        self.assertEqual(can(story, "bob", "read", "t", 3), "never")
        self.assertEqual(can(story, "dee", "read", "t", 3), "sure")

    def test_a_link_whose_maker_was_shortened(self):
        story = story_of(HOUSE, self.BASE).done(("shorten", "k", ["read", "send"], 1))
        self.assertEqual([can(story, "bob", "read", "t", day) for day in (1, 2)], ["sure", "never"])
        story = story.done(("shorten", "k", ["send"], 1))
        self.assertEqual(can(story, "bob", "read", "t", 1), "never")

    def test_a_moved_thing(self):
        story = story_of(HOUSE, self.BASE).done(("move", "t", "c"))
        self.assertEqual(can(story, "bob", "read", "t", 3), "open")
        self.assertEqual(can(story, "cy", "read", "t", 0), "sure")
        self.assertEqual(why_can(story, "cy", "read", "t", 0), ("at", "m"))
        story = story.done(("move", "t", "b"))
        self.assertEqual(can(story, "bob", "read", "t", 3), "sure")
        self.assertEqual(why_can(story, "bob", "read", "t", 3), ("at", "l"))
        self.assertEqual(why_can(story, "ann", "read", "t", 3)[0], "group")

    def test_by_several_links_together(self):
        # As in the document's example: t lies below a or b, though it is open for both.
        house = House(["a", "b", "c"], ["t", "u", "v", "w"])
        deeds = [("link", folder, "zoe", folder, ["x"], None) for folder in house.folders]
        trials = [("t", "c", True), ("w", "c", True), ("w", "b", True), ("v", "b", True), ("v", "a", True),
                  ("u", "a", True), ("u", "c", False)]
        deeds += [("tried", folder, "x", thing, 0, opened) for thing, folder, opened in trials]
        deeds += [("link", "k", "ann", "a", ["read"], 5), ("link", "l", "ann", "b", ["read"], 3), ("link", "m", "bob", "b", ["read"], 3)]
        story = story_of(house, deeds)
        self.assertEqual([can(story, "ann", "read", "t", day) for day in (3, 4)], ["sure", "open"])
        self.assertEqual(can(story, "bob", "read", "t", 3), "open")
        word, nodes = why_can(story, "ann", "read", "t", 3)
        self.assertEqual(word, "group")
        self.group(house, [*story.facts().told(), ("not", "t", "a"), ("not", "t", "b")], nodes)

    def shows(self, story, worlds, person, verb, thing, day):
        """can tells what is so in all worlds, and why_can shows it; the verdict, and at when a link stands at the place."""
        answers = [world.can(person, verb, thing, day) for world, over in worlds]
        word = can(story, person, verb, thing, day)
        self.assertEqual(word, word_of(answers))
        told = why_can(story, person, verb, thing, day)
        rows, place, house = story.facts().told(), story.place(thing), story.house
        world = worlds[0][0]
        links = [(name, link["folder"]) for name, link in world.links.items()
                 if link["person"] == person and world.lets(name, verb, day)]
        if word == "never":
            self.assertIs(type(told), list)
            self.assertEqual([name for name, nodes in told], [name for name, folder in links])
            for (name, nodes), (same, folder) in zip(told, links):
                self.group(house, [*rows, ("below", place, folder)], nodes)
        elif word == "open":
            self.assertIs(type(told), tuple)
            for tree, answer in zip(told, (True, False)):
                self.fits(house, rows, tree)
                [[one, over]] = worlds_of(house, story.deeds(), [{node: tree.over(node) for node in house}])
                self.assertIs(one.can(person, verb, thing, day), answer)
        elif place in [folder for name, folder in links]:
            self.assertEqual(told[0], "at")
            self.assertIn((told[1], place), links)
            return "at"
        else:
            self.assertEqual(told[0], "group")
            self.group(house, [*rows, *[("not", place, folder) for name, folder in links]], told[1])
        return word

    def test_drawn_stories_beside_all_worlds(self):
        words = []
        for story, deeds, worlds in self.drawn_stories(500, 12, 24):
            for person, verb, thing in product(PERSONS, VERBS, story.house.things):
                for day in (0, 7):
                    words.append(self.shows(story, worlds, person, verb, thing, day))
        for word, many in (("sure", 5), ("never", 100), ("open", 100), ("at", 50)):
            self.assertGreater(words.count(word), many, word)

    def test_what_is_told_holds_in_the_true_tree(self):
        for house in LARGER[:2]:
            for seed in range(600, 620):
                deeds, over = told_story(house, seed, 30)
                [[world, same]] = worlds_of(house, deeds, [over])
                story = story_of(house, deeds)
                for person, verb, thing in product(PERSONS, VERBS, house.things):
                    word = can(story, person, verb, thing, 0)
                    self.assertIn(word, {True: ("sure", "open"), False: ("never", "open")}[world.can(person, verb, thing, 0)])

    def test_the_same_call_tells_the_same_and_changes_nothing(self):
        for story, deeds, worlds in self.drawn_stories(700, 2, 20):
            before = snapshot(story)
            for person, thing in product(PERSONS, story.house.things):
                told = why_can(story, person, "read", thing, 0)
                self.assertEqual(why_can(story, person, "read", thing, 0), told)
                self.assertEqual(why_can(story_of(story.house, deeds), person, "read", thing, 0), told)
                if isinstance(told, list):
                    told.append(1)
                    self.assertNotEqual(why_can(story, person, "read", thing, 0), told)
            self.assertEqual(snapshot(story), before)

    def test_arguments_by_name(self):
        story = story_of(HOUSE, self.BASE)
        self.assertEqual(can(day=3, thing="t", verb="read", person="bob", story=story), "sure")
        self.assertEqual(why_can(day=4, thing="t", verb="read", person="bob", story=story), [])
        self.assertEqual(who(day=4, thing="t", verb="x", story=story), {"ann": "never", "bob": "never", "cy": "never"})

    def test_several_wrong_at_once(self):
        choices = [
            [("bob", None, None), ("Bob", BadName, "name"), ([], BadName, "name")],
            [("read", None, None), (5, BadName, "name"), ({}, BadName, "name")],
            [("t", None, None), ("a", NoThing, "thing"), ([], NoThing, "thing")],
            [(3, None, None), (None, BadDay, "day"), (True, BadDay, "day")],
        ]
        for story in (story_of(HOUSE, self.BASE), Story(HOUSE)):
            self.first_of(can, story, choices)
            self.first_of(why_can, story, choices)
            self.first_of(who, story, choices[1:])

    def test_any_objects(self):
        story = story_of(HOUSE, self.BASE)
        for call in (can, why_can):
            for thing in any_objects():
                self.raised(BadName, "name", thing, call, story, thing, "read", "t", 3)
                self.raised(BadName, "name", thing, call, story, "bob", thing, "t", 3)
                self.raised(NoThing, "thing", thing, call, story, "bob", "read", thing, 3)
            for thing in NO_DAYS:
                self.raised(BadDay, "day", thing, call, story, "bob", "read", "t", thing)
        for thing in any_objects():
            self.raised(BadName, "name", thing, who, story, thing, "t", 3)
            self.raised(NoThing, "thing", thing, who, story, "read", thing, 3)
        for thing in NO_DAYS:
            self.raised(BadDay, "day", thing, who, story, "read", "t", thing)


class AllWhoHold(InWorlds):
    def test_all_persons_ascending(self):
        story = story_of(HOUSE, WhoCan.BASE)
        told = who(story, "read", "t", 3)
        self.assertIs(type(told), dict)
        self.assertEqual(list(told.items()), [("ann", "sure"), ("bob", "sure"), ("cy", "never")])
        story = story.done(("pass", "k", "zoe")).done(("pass", "m", "abe"))
        self.assertEqual(list(who(story, "read", "t", 3)), ["abe", "bob", "zoe"])

    def test_also_those_whose_links_do_not_let_it(self):
        story = story_of(HOUSE, WhoCan.BASE)
        self.assertEqual(who(story, "send", "t", 9), {"ann": "never", "bob": "never", "cy": "never"})

    def test_nobody(self):
        self.assertEqual(who(Story(HOUSE), "read", "t", 0), {})
        story = story_of(HOUSE, WhoCan.BASE).done(("withdraw", "k")).done(("withdraw", "m"))
        self.assertEqual(who(story, "read", "t", 0), {})

    def test_a_new_dict_each_time(self):
        story = story_of(HOUSE, WhoCan.BASE)
        who(story, "read", "t", 3).clear()
        self.assertEqual(len(who(story, "read", "t", 3)), 3)

    def test_drawn_stories_beside_what_can_tells(self):
        for story, deeds, worlds in self.drawn_stories(800, 6, 20):
            persons = sorted({link["person"] for link in worlds[0][0].links.values()})
            for verb, thing in product(VERBS, story.house.things):
                told = who(story, verb, thing, 3)
                self.assertEqual(list(told), persons)
                for person in persons:
                    self.assertEqual(told[person], word_of([world.can(person, verb, thing, 3) for world, over in worlds]))


class WhatCopiesKeep(InWorlds):
    def kept(self, story, worlds, name, thing):
        """The verdicts of the copy beside all worlds; these."""
        copies = [thing in world.links[name]["kept"] for world, over in worlds]
        lies = [world.lies(thing, world.links[name]["folder"]) for world, over in worlds]
        words = (word_of(copies), word_of([one != other for one, other in zip(copies, lies)]))
        self.assertEqual((copied(story, name, thing), unlike(story, name, thing)), words)
        return words

    def test_what_lay_below_the_folder_then(self):
        deeds = [("link", "k", "ann", "a", ["x"], None), ("tried", "k", "x", "t", 0, True), ("tried", "k", "x", "u", 0, False)]
        story = story_of(HOUSE, deeds)
        self.assertEqual([copied(story, "k", thing) for thing in ("t", "u")], ["sure", "never"])
        self.assertEqual([unlike(story, "k", thing) for thing in ("t", "u")], ["never", "never"])
        story = story.done(("move", "t", "b")).done(("move", "u", "a"))
        self.assertEqual([copied(story, "k", thing) for thing in ("t", "u")], ["sure", "never"])
        self.assertEqual([unlike(story, "k", thing) for thing in ("t", "u")], ["open", "sure"])
        story = story.done(("link", "l", "ann", "a", ["x"], None))
        self.assertEqual([copied(story, "l", thing) for thing in ("t", "u")], ["open", "sure"])
        self.assertEqual([unlike(story, "l", thing) for thing in ("t", "u")], ["never", "never"])

    def test_moved_ahead_of_the_link(self):
        story = story_of(HOUSE, [("move", "t", "a"), ("link", "k", "ann", "a", ["x"], None), ("move", "t", "c")])
        self.assertEqual((copied(story, "k", "t"), unlike(story, "k", "t")), ("sure", "open"))
        story = story_of(HOUSE, [("move", "t", "a"), ("move", "t", "c"), ("link", "k", "ann", "a", ["x"], None), ("move", "t", "a")])
        self.assertEqual((copied(story, "k", "t"), unlike(story, "k", "t")), ("open", "open"))

    def test_what_was_told_later_tells_of_it_too(self):
        deeds = [("link", "k", "ann", "a", ["x"], None), ("move", "t", "b"), ("link", "l", "ann", "b", ["x"], None)]
        story = story_of(HOUSE, [*deeds, ("narrow", "m", "k", "bob", "b", ["x"], None)])
        self.assertEqual((copied(story, "k", "t"), unlike(story, "k", "t")), ("open", "open"))
        self.assertEqual(copied(story, "l", "t"), "sure")

    def test_a_link_that_is_made_from_another_one_has_a_copy_of_its_own(self):
        deeds = [("link", "k", "ann", "a", ["x"], None), ("move", "t", "a"), ("narrow", "l", "k", "bob", "a", ["x"], None)]
        story = story_of(HOUSE, deeds)
        self.assertEqual([copied(story, name, "t") for name in ("k", "l")], ["open", "sure"])
        self.assertEqual([unlike(story, name, "t") for name in ("k", "l")], ["open", "never"])

    def test_passing_on_and_shortening_make_no_new_copy(self):
        deeds = [("link", "k", "ann", "a", ["x", "y"], None), ("move", "t", "a"), ("pass", "k", "bob"), ("shorten", "k", ["x"], 2)]
        self.assertEqual(copied(story_of(HOUSE, deeds), "k", "t"), "open")

    def test_drawn_stories_beside_all_worlds(self):
        words = []
        for story, deeds, worlds in self.drawn_stories(900, 25, 24):
            for name, thing in product(story.links(), story.house.things):
                words.append(self.kept(story, worlds, name, thing))
        for pair, many in ((("sure", "never"), 20), (("never", "never"), 5), (("open", "never"), 20), (("open", "open"), 20),
                           (("sure", "open"), 5), (("never", "sure"), 0), (("sure", "sure"), 0)):
            self.assertGreater(words.count(pair), many, pair)

    def test_arguments_by_name(self):
        story = story_of(HOUSE, [("move", "t", "a"), ("link", "k", "ann", "a", ["x"], None)])
        self.assertEqual(copied(thing="t", name="k", story=story), "sure")
        self.assertEqual(unlike(thing="t", name="k", story=story), "never")

    def test_wrong_arguments(self):
        story = story_of(HOUSE, [*WhoCan.BASE, ("withdraw", "m")])
        for call in (copied, unlike):
            for thing in [*any_objects(), "m", "x", "ann", ("k",)]:
                self.raised(NoLink, "name", thing, call, story, thing, "t")
                self.raised(NoLink, "name", thing, call, story, thing, thing)
            for thing in [*any_objects(), "a", "x", "k", ("t",)]:
                self.raised(NoThing, "thing", thing, call, story, "k", thing)
            self.first_of(call, story, [
                [("k", None, None), ("m", NoLink, "name"), ({}, NoLink, "name")],
                [("t", None, None), ("a", NoThing, "thing"), ([], NoThing, "thing")],
            ])


if __name__ == "__main__":
    unittest.main()
