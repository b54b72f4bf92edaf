"""Kept up: [31], [32], and the conventions of [3] and [4] for them."""

import unittest
from random import Random

from anything import any_objects, no_lists, no_wishes
from looking import LARGER, SMALL
from whatopened.desks import Desk
from whatopened.errors import (
    BadDeed, BadName, BadVerbs, BadWish, Held, NoDeed, NoFolder, NoLink, NotHeld, NotLet, Quarrel, Taken, Wider,
)
from whatopened.houses import House
from whatopened.rights import can
from whatopened.stories import Story
from worlds import PERSONS, VERBS, InWorlds, Teller, snapshot, story_of

HOUSE = House(["b", "a", "c"], ["u", "t"])
LINK = ("link", "k", "bob", "a", ("read", "send"), 5)
TRIED = ("tried", "k", "read", "t", 0, True)
WISH = ("bob", "read", "t", 3)


class Desks(InWorlds):
    def all_told(self, desk):
        """All that a desk tells by itself."""
        return (snapshot(desk.story()), desk.names(), [desk.state(name) for name in desk.names()])

    def refused(self, kind, attribute, thing, desk, call, *parts):
        """The call raises just this error, and the desk stays as it is."""
        before = self.all_told(desk)
        self.raised(kind, attribute, thing, call, *parts)
        self.assertEqual(self.all_told(desk), before)

    def no_deed(self, call):
        with self.assertRaises(NoDeed) as caught:
            call()
        self.assertIs(type(caught.exception), NoDeed)


class WhatIsWatched(Desks):
    def test_a_desk_without_wishes(self):
        story = story_of(HOUSE, [LINK])
        desk = Desk(story)
        self.assertEqual(desk.story(), story)
        self.assertEqual(desk.names(), [])

    def test_watched_and_no_more(self):
        desk = Desk(Story(HOUSE))
        self.assertIs(desk.watch("one", WISH), None)
        self.assertIs(desk.watch("all", ("ann", "x", "u", 0)), None)
        self.assertEqual(desk.names(), ["all", "one"])
        self.assertIs(desk.unwatch("one"), None)
        self.assertEqual(desk.names(), ["all"])
        self.refused(NotHeld, "name", "one", desk, desk.unwatch, "one")
        self.refused(NotHeld, "name", "one", desk, desk.state, "one")
        self.assertIs(desk.watch("one", ("ann", "x", "u", 0)), None)
        self.assertEqual(desk.names(), ["all", "one"])

    def test_the_state_now(self):
        desk = Desk(Story(HOUSE))
        desk.watch("w", WISH)
        self.assertEqual(desk.state("w"), "never")
        desk.do(LINK)
        self.assertEqual(desk.state("w"), "open")
        desk.do(TRIED)
        self.assertEqual(desk.state("w"), "sure")
        desk.undo()
        self.assertEqual(desk.state("w"), "open")

    def test_one_wish_under_two_names(self):
        desk = Desk(Story(HOUSE))
        desk.watch("v", WISH)
        desk.watch("w", WISH)
        self.assertEqual(desk.do(LINK), [("v", "open"), ("w", "open")])

    def test_a_new_list_of_names_each_time(self):
        desk = Desk(Story(HOUSE))
        desk.watch("w", WISH)
        desk.names().clear()
        self.assertEqual(desk.names(), ["w"])

    def test_a_wish_is_copied(self):
        wish = list(WISH)
        desk = Desk(story_of(HOUSE, [LINK, TRIED]))
        desk.watch("w", wish)
        wish[0] = "ann"
        self.assertEqual(desk.state("w"), "sure")
        wish.clear()
        self.assertEqual(desk.state("w"), "sure")

    def test_desks_of_one_story_are_apart(self):
        story = story_of(HOUSE, [LINK])
        one, other = Desk(story), Desk(story)
        one.watch("w", WISH)
        one.do(TRIED)
        self.assertEqual((other.names(), other.story(), story.deeds()), ([], story, [LINK]))
        self.assertEqual(other.story(), story)
        self.no_deed(other.undo)

    def test_wrong_names(self):
        desk = Desk(story_of(HOUSE, [LINK]))
        desk.watch("w", WISH)
        for thing in any_objects():
            self.refused(BadName, "name", thing, desk, desk.watch, thing, WISH)
            self.refused(BadName, "name", thing, desk, desk.watch, thing, thing)
        for wish in (WISH, None, ("ann", "x", "u", 0)):
            self.refused(Held, "name", "w", desk, desk.watch, "w", wish)
        for thing in [*any_objects(), "v", "k", "bob", ("w",), ["w"]]:
            self.refused(NotHeld, "name", thing, desk, desk.unwatch, thing)
            self.refused(NotHeld, "name", thing, desk, desk.state, thing)

    def test_wrong_wishes(self):
        desk = Desk(story_of(HOUSE, [LINK]))
        desk.watch("w", WISH)
        for thing in no_wishes(HOUSE):
            self.refused(BadWish, "index", 0, desk, desk.watch, "v", thing)

    def test_arguments_by_name(self):
        desk = Desk(story=Story(HOUSE))
        desk.watch(wish=WISH, name="w")
        self.assertEqual(desk.do(deed=LINK), [("w", "open")])
        self.assertEqual(desk.would(deeds=[TRIED]), [("w", "sure")])
        self.assertEqual(desk.state(name="w"), "open")
        desk.unwatch(name="w")
        self.assertEqual(desk.names(), [])


class WhatIsDone(Desks):
    def test_news(self):
        desk = Desk(Story(HOUSE))
        desk.watch("wt", WISH)
        desk.watch("wu", ("bob", "send", "u", 5))
        desk.watch("ws", ("ann", "read", "t", 0))
        self.assertEqual(desk.do(LINK), [("wt", "open"), ("wu", "open")])
        self.assertEqual(desk.do(TRIED), [("wt", "sure")])
        self.assertEqual(desk.do(("pass", "k", "ann")), [("ws", "sure"), ("wt", "never"), ("wu", "never")])
        self.assertEqual(desk.do(("move", "u", "a")), [])
        self.assertEqual(desk.do(("withdraw", "k")), [("ws", "never")])
        self.assertEqual(desk.story().deeds(), [LINK, TRIED, ("pass", "k", "ann"), ("move", "u", "a"), ("withdraw", "k")])
        self.assertEqual(desk.undo(), [("ws", "sure")])

    def test_of_no_wishes(self):
        desk = Desk(Story(HOUSE))
        for told in (desk.do(LINK), desk.undo(), desk.again(), desk.would([("withdraw", "k")])):
            self.assertEqual(told, [])
            self.assertIs(type(told), list)

    def test_taken_back_and_done_again(self):
        desk = Desk(Story(HOUSE))
        desk.watch("w", WISH)
        desk.do(LINK)
        desk.do(TRIED)
        self.assertEqual(desk.undo(), [("w", "open")])
        self.assertEqual(desk.story(), story_of(HOUSE, [LINK]))
        self.assertEqual(desk.undo(), [("w", "never")])
        self.assertEqual(desk.story(), Story(HOUSE))
        self.no_deed(desk.undo)
        self.assertEqual(desk.again(), [("w", "open")])
        self.assertEqual(desk.again(), [("w", "sure")])
        self.assertEqual(desk.story(), story_of(HOUSE, [LINK, TRIED]))
        self.no_deed(desk.again)
        self.assertEqual(desk.story(), story_of(HOUSE, [LINK, TRIED]))

    def test_nothing_was_done(self):
        desk = Desk(story_of(HOUSE, [LINK, TRIED]))
        for call in (desk.undo, desk.again):
            self.no_deed(call)
            self.no_deed(call)
        self.assertEqual(desk.story(), story_of(HOUSE, [LINK, TRIED]))

    def test_deeds_of_the_first_story_are_not_taken_back(self):
        story = story_of(HOUSE, [LINK])
        desk = Desk(story)
        desk.do(TRIED)
        desk.undo()
        self.no_deed(desk.undo)
        self.assertEqual(desk.story(), story)
        self.assertEqual(story.deeds(), [LINK])

    def test_a_deed_behind_one_taken_back(self):
        desk = Desk(Story(HOUSE))
        desk.do(LINK)
        desk.do(TRIED)
        desk.undo()
        other = ("tried", "k", "read", "t", 0, False)
        desk.do(other)
        self.no_deed(desk.again)
        self.assertEqual(desk.story(), story_of(HOUSE, [LINK, other]))
        desk.undo()
        desk.undo()
        self.no_deed(desk.undo)
        desk.again()
        desk.again()
        self.assertEqual(desk.story().deeds(), [LINK, other])

    def test_the_same_deed_behind_one_taken_back_is_a_new_one(self):
        desk = Desk(Story(HOUSE))
        desk.do(LINK)
        desk.do(TRIED)
        desk.undo()
        desk.undo()
        desk.do(LINK)
        self.no_deed(desk.again)

    def test_what_is_no_deed_leaves_what_can_be_done_again(self):
        desk = Desk(Story(HOUSE))
        desk.do(LINK)
        desk.do(TRIED)
        desk.undo()
        desk.watch("w", WISH)
        desk.watch("v", WISH)
        desk.unwatch("v")
        desk.would([("move", "t", "a")])
        for deed in (LINK, ("withdraw", "x"), None, ("tried", "k", "x", "t", 0, True)):
            with self.assertRaises((Taken, NoLink, BadDeed, NotLet)):
                desk.do(deed)
            with self.assertRaises((Taken, NoLink, BadDeed, NotLet)):
                desk.would([deed])
        self.refused(Held, "name", "w", desk, desk.watch, "w", WISH)
        self.assertEqual(desk.again(), [("w", "sure")])
        self.no_deed(desk.again)

    def test_a_wish_that_is_watched_in_between(self):
        desk = Desk(Story(HOUSE))
        desk.do(LINK)
        desk.watch("w", WISH)
        self.assertEqual(desk.undo(), [("w", "never")])
        desk.watch("v", ("bob", "send", "t", 0))
        self.assertEqual(desk.again(), [("v", "open"), ("w", "open")])
        desk.unwatch("w")
        self.assertEqual(desk.undo(), [("v", "never")])

    def test_errors_of_deeds(self):
        story = story_of(HOUSE, [LINK, TRIED])
        desk = Desk(story)
        desk.watch("w", WISH)
        for kind, deed in ((Taken, LINK), (NoFolder, ("move", "t", "x")), (BadVerbs, ("shorten", "k", [], 1)),
                           (Wider, ("shorten", "k", ["read"], 6)), (Quarrel, (*TRIED[:5], False)), (NoLink, ("pass", "l", "bob"))):
            before = self.all_told(desk)
            with self.assertRaises(kind):
                desk.do(deed)
            self.assertEqual(self.all_told(desk), before)
            self.assertIs(desk.story(), desk.story())
            self.no_deed(desk.undo)
        for thing in any_objects():
            self.refused(BadDeed, "deed", thing, desk, desk.do, thing)

    def test_many_deeds_taken_back_and_done_again(self):
        house = LARGER[0]
        desk, stories = Desk(Story(house)), [Story(house)]
        for at in range(150):
            folder, thing = house.folders[at % 3], house.things[at % 2]
            deed = ("move", thing, folder) if at else ("link", "k", "ann", "a", ["x"], None)
            desk.do(deed)
            stories.append(stories[-1].done(deed))
        for story in stories[-2::-1]:
            desk.undo()
            self.assertEqual(snapshot(desk.story()), snapshot(story))
        self.no_deed(desk.undo)
        for story in stories[1:]:
            desk.again()
            self.assertEqual(snapshot(desk.story()), snapshot(story))
        self.no_deed(desk.again)


class WhatWouldBe(Desks):
    def desk(self):
        desk = Desk(story_of(HOUSE, [LINK]))
        desk.watch("wt", WISH)
        desk.watch("wu", ("bob", "send", "u", 5))
        return desk

    def test_news_behind_all_deeds(self):
        desk = self.desk()
        before = self.all_told(desk)
        self.assertEqual(desk.would([]), [])
        self.assertEqual(desk.would([TRIED]), [("wt", "sure")])
        self.assertEqual(desk.would((TRIED, ("move", "u", "a"))), [("wt", "sure"), ("wu", "sure")])
        # What changed in between does not count.
        self.assertEqual(desk.would([("move", "t", "a"), ("move", "t", "b")]), [])
        self.assertEqual(desk.would([("move", "t", "a"), ("withdraw", "k")]), [("wt", "never"), ("wu", "never")])
        self.assertEqual(self.all_told(desk), before)
        self.no_deed(desk.undo)
        self.no_deed(desk.again)

    def test_deeds_behind_each_other(self):
        desk = self.desk()
        deeds = [["narrow", "l", "k", "bob", "b", ["read"], 3], ["withdraw", "l"], ["link", "m", "bob", "c", ["send"], None]]
        self.assertEqual(desk.would(deeds), [])
        with self.assertRaises(Taken) as caught:
            desk.would([*deeds, ("link", "l", "bob", "b", ["read"], 3)])
        self.assertEqual(caught.exception.name, "l")
        self.assertEqual(deeds[0], ["narrow", "l", "k", "bob", "b", ["read"], 3])

    def test_the_first_deed_that_cannot_be_done(self):
        desk = self.desk()
        for thing in any_objects():
            self.refused(BadDeed, "deed", thing, desk, desk.would, [thing, ("withdraw", "x")])
            self.refused(NoLink, "name", "x", desk, desk.would, [TRIED, ("withdraw", "x"), thing])
        self.refused(NoLink, "name", "k", desk, desk.would, [("withdraw", "k"), ("withdraw", "k")])
        before = self.all_told(desk)
        with self.assertRaises(Quarrel) as caught:
            desk.would([TRIED, (*TRIED[:5], False)])
        self.group(HOUSE, [("below", "t", "a"), ("not", "t", "a")], caught.exception.nodes)
        self.assertEqual(self.all_told(desk), before)

    def test_what_is_no_list(self):
        desk = self.desk()
        for thing in [*no_lists(), "ab", {LINK: 1}, HOUSE, desk.story(), desk]:
            self.refused(BadDeed, "deed", thing, desk, desk.would, thing)

    def test_a_deed_in_place_of_a_list_of_deeds(self):
        desk = self.desk()
        self.refused(BadDeed, "deed", "move", desk, desk.would, ("move", "t", "a"))

    def test_taken_back_deeds_stay_so(self):
        desk = self.desk()
        desk.do(TRIED)
        desk.undo()
        self.assertEqual(desk.would([("move", "u", "a")]), [("wu", "sure")])
        self.assertEqual(desk.again(), [("wt", "sure")])


class DrawnDesks(Desks):
    def test_drawn_turns_beside_a_list_of_stories(self):
        count = {"do": 0, "undo": 0, "again": 0, "would": 0, "news": 0}
        for house in (SMALL[3], SMALL[6], SMALL[7], LARGER[0]):
            for seed in range(1600, 1604):
                self.turns(house, seed, count)
        for word in count:
            self.assertGreater(count[word], 30, word)

    def turns(self, house, seed, count):
        draw, teller = Random(seed), Teller(house, seed)
        start = story_of(house, teller.deeds(draw.choice([0, 6])))
        desk, stories, at = Desk(start), [start], 0
        wishes = {name: (draw.choice(PERSONS), draw.choice(VERBS), draw.choice(house.things), draw.choice([0, 5]))
                  for name in ("wd", "wb", "wc", "wa")}
        for name, wish in wishes.items():
            desk.watch(name, wish)
        for turn in range(40):
            word = draw.choice(["do", "do", "undo", "again", "would"])
            before = {name: can(desk.story(), *wish) for name, wish in wishes.items()}
            if word == "do" or word == "would":
                # The world of the teller is as of its last deed: what cannot be done here is left.
                deeds = teller.deeds(2 if word == "would" else 1)
                try:
                    behind = story_of_more(stories[at], deeds)
                except ValueError as error:
                    with self.assertRaises(type(error)):
                        desk.would(deeds)
                    self.assertEqual(desk.story(), stories[at])
                    continue
                if word == "would":
                    told = desk.would(deeds)
                elif deeds:
                    told = desk.do(deeds[0])
                    stories, at = [*stories[:at + 1], behind], at + 1
                else:
                    continue
            else:
                to = at - 1 if word == "undo" else at + 1
                if not 0 <= to < len(stories):
                    self.no_deed(desk.undo if word == "undo" else desk.again)
                    continue
                told = desk.undo() if word == "undo" else desk.again()
                at, behind = to, stories[to]
            after = {name: can(behind, *wish) for name, wish in wishes.items()}
            self.assertEqual(told, [(name, after[name]) for name in sorted(wishes) if after[name] != before[name]])
            self.assertEqual(desk.story(), stories[at])
            self.assertEqual([desk.state(name) for name in desk.names()],
                             [can(stories[at], *wishes[name]) for name in sorted(wishes)])
            count[word] += 1
            count["news"] += len(told)


def story_of_more(story, deeds):
    """The story behind some more deeds."""
    for deed in deeds:
        story = story.done(deed)
    return story


if __name__ == "__main__":
    unittest.main()
