"""Links withdrawn: [30], and the conventions of [3] and [4] for it."""

import unittest
from itertools import combinations, product

from anything import any_objects, no_lists, no_wishes
from looking import LARGER
from whatopened.errors import BadWish, NoLink
from whatopened.facts import Facts
from whatopened.houses import House
from whatopened.rights import can
from whatopened.stops import lost, stops
from whatopened.stories import Story
from worlds import PERSONS, InWorlds, snapshot, story_of, told_story, worlds_of

HOUSE = House(["b", "a", "c"], ["u", "t"])
# bob can read t by k, by l and by m; ann by n alone.
BASE = [
    ("link", "k", "bob", "a", ["read", "send"], 5), ("narrow", "l", "k", "bob", "b", ["read"], 3), ("link", "m", "bob", "c", ["read"], None),
    ("narrow", "n", "k", "ann", "a", ["read"], 4), ("move", "t", "b"), ("tried", "m", "read", "t", 0, True),
]
WISH = ("bob", "read", "t", 3)


class WhatIsLost(InWorlds):
    def test_with_all_that_was_made_from_them(self):
        story = story_of(HOUSE, [*BASE, ("narrow", "j", "l", "cy", "b", ["read"], 1)])
        self.assertEqual(lost(story, ["k"]), ["k", "l", "n", "j"])
        self.assertEqual(lost(story, ["l"]), ["l", "j"])
        self.assertEqual(lost(story, ["j"]), ["j"])
        self.assertEqual(lost(story, ["m", "l"]), ["l", "m", "j"])

    def test_no_links_and_one_link_twice(self):
        story = story_of(HOUSE, BASE)
        self.assertEqual(lost(story, []), [])
        self.assertEqual(lost(Story(HOUSE), ()), [])
        self.assertEqual(lost(story, ["m", "m"]), ["m"])
        self.assertEqual(lost(story, ["l", "k", "l"]), ["k", "l", "n"])

    def test_beside_what_withdraw_does(self):
        for house in LARGER:
            for seed in range(1400, 1410):
                deeds, over = told_story(house, seed, 24)
                [[world, same]] = worlds_of(house, deeds, [over])
                story = story_of(house, deeds)
                for size in (1, 2):
                    for names in combinations(story.links()[::-1], size):
                        behind = world.copy()
                        gone = behind.withdraw(names)
                        self.assertEqual(lost(story, names), gone)
                        self.assertEqual([name for name in story.links() if name not in gone], list(behind.links))

    def test_a_new_list_each_time_and_nothing_changed(self):
        story, names = story_of(HOUSE, BASE), ["k", "m"]
        before = snapshot(story)
        lost(story, names).clear()
        self.assertEqual(lost(names=tuple(names), story=story), ["k", "l", "m", "n"])
        self.assertEqual((snapshot(story), names), (before, ["k", "m"]))

    def test_links_that_do_not_stand(self):
        story = story_of(HOUSE, [*BASE, ("withdraw", "n")])
        for thing in [*any_objects(), "n", "x", "bob", ("k",)]:
            self.raised(NoLink, "name", thing, lost, story, [thing])
            self.raised(NoLink, "name", thing, lost, story, ("k", thing, "x"))
            self.raised(NoLink, "name", thing, lost, Story(HOUSE), [thing, "k"])


class WhatStops(InWorlds):
    def test_as_few_as_possible(self):
        story = story_of(HOUSE, BASE)
        self.assertEqual(stops(story, WISH, []), [("k", "m")])
        self.assertEqual(stops(story, ("ann", "read", "t", 3), []), [("k",), ("n",)])
        self.assertEqual(stops(story, ("bob", "send", "t", 3), []), [("k",)])
        self.assertEqual(stops(story, ("bob", "read", "t", 6), []), [("m",)])

    def test_in_the_order_of_links(self):
        deeds = [("link", name, "ann", "a", ["x"], None) for name in "zyx"]
        deeds += [("narrow", name, maker, "bob", "a", ["x"], None) for name, maker in (("c", "x"), ("b", "y"))]
        story = story_of(HOUSE, deeds)
        self.assertEqual(stops(story, ("bob", "x", "t", 0), []), [("y", "x"), ("y", "c"), ("x", "b"), ("c", "b")])
        self.assertEqual(stops(story, ("bob", "x", "t", 0), ()), [("y", "x"), ("y", "c"), ("x", "b"), ("c", "b")])

    def test_a_wish_that_is_never_anyhow(self):
        story = story_of(HOUSE, BASE)
        for wish in (("dee", "read", "t", 0), ("bob", "x", "t", 0), ("ann", "read", "t", 5)):
            self.assertEqual(stops(story, wish, []), [()])
            self.assertEqual(stops(story, wish, [WISH]), [()])
            self.assertEqual(stops(story, wish, [wish]), [])
        self.assertEqual(stops(Story(HOUSE), WISH, []), [()])

    def test_kept_wishes(self):
        story = story_of(HOUSE, BASE)
        ann = ("ann", "read", "t", 3)
        self.assertEqual(stops(story, WISH, [ann]), [])
        self.assertEqual(stops(story, ann, [WISH]), [("k",), ("n",)])
        self.assertEqual(stops(story, ann, [("bob", "send", "t", 3)]), [("n",)])
        self.assertEqual(stops(story, ann, [("bob", "send", "t", 3), WISH]), [("n",)])

    def test_the_wish_itself_is_kept(self):
        self.assertEqual(stops(story_of(HOUSE, BASE), WISH, [WISH]), [])

    def test_a_kept_wish_that_is_only_open(self):
        story = story_of(HOUSE, BASE)
        self.assertEqual(can(story, "ann", "read", "u", 0), "open")
        self.assertEqual(stops(story, ("bob", "send", "t", 3), [("ann", "read", "u", 0)]), [])
        self.assertEqual(stops(story, ("dee", "read", "u", 0), [("ann", "read", "u", 0)]), [])

    def test_an_open_wish_is_to_be_never(self):
        story = story_of(HOUSE, BASE)
        self.assertEqual(stops(story, ("ann", "read", "u", 0), []), [("k",), ("n",)])
        self.assertEqual(stops(story, ("bob", "read", "u", 4), []), [("k", "m")])

    def test_drawn_stories_beside_all_worlds(self):
        found = []
        for story, deeds, worlds in self.drawn_stories(1500, 25, 16):
            thing = story.house.things[0]
            for person, other in product(PERSONS, PERSONS):
                wish, kept = (person, "read", thing, 0), [(other, "x", thing, 0)] if person != other else []
                told = stops(story, wish, kept)
                self.assertEqual(told, self.able(story.links(), worlds, wish, kept))
                self.assertEqual([type(one) for one in told], [tuple] * len(told))
                found.append(len(told[0]) if told else None)
        for many in (None, 0, 1, 2, 3):
            self.assertGreater(found.count(many), 2, many)

    def able(self, names, worlds, wish, kept):
        """What stops is to tell, looked for in all worlds."""
        for size in range(len(names) + 1):
            found = []
            for one in combinations(names, size):
                behind = [self.behind(world, one) for world, over in worlds]
                if not any(world.can(*wish) for world in behind) and all(world.can(*also) for world in behind for also in kept):
                    found.append(one)
            if found:
                return found
        return []

    def behind(self, world, names):
        """The world behind the withdrawal of some links."""
        other = world.copy()
        other.withdraw(names)
        return other

    def test_lists_for_tuples_arguments_by_name_and_nothing_changed(self):
        story = story_of(HOUSE, BASE)
        before = snapshot(story)
        wish, kept = ["ann", "read", "t", 3], (["bob", "send", "t", 3],)
        self.assertEqual(stops(kept=kept, wish=wish, story=story), [("n",)])
        self.assertEqual(stops(story, tuple(wish), [tuple(kept[0])]), [("n",)])
        stops(story, wish, kept).clear()
        self.assertEqual(stops(story, wish, kept), [("n",)])
        self.assertEqual((wish, kept), (["ann", "read", "t", 3], (["bob", "send", "t", 3],)))
        self.assertEqual(snapshot(story), before)

    def test_what_is_no_wish(self):
        story = story_of(HOUSE, BASE)
        for thing in no_wishes(HOUSE):
            self.raised(BadWish, "index", 0, stops, story, thing, [])
            self.raised(BadWish, "index", 0, stops, story, thing, [thing])
            self.raised(BadWish, "index", 0, stops, story, thing, None)
            self.raised(BadWish, "index", 1, stops, story, WISH, [thing])
            self.raised(BadWish, "index", 3, stops, story, WISH, (WISH, list(WISH), thing, thing))

    def test_what_is_no_list_of_wishes(self):
        story = story_of(HOUSE, BASE)
        for thing in [*no_lists(), "ab", {WISH: 1}, HOUSE, Facts(HOUSE)]:
            self.raised(BadWish, "index", 1, stops, story, WISH, thing)
        self.raised(BadWish, "index", 1, stops, story, WISH, WISH)


if __name__ == "__main__":
    unittest.main()
