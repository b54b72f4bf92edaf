"""Links: [22] to [25], and the conventions of [3] and [4] for them."""

import unittest
from itertools import product

from anything import all_facts, any_objects, holds_in, no_lists
from looking import FULL, LARGER, SMALL, Looking, trees_of
from whatopened.errors import (
    BadAnswer, BadDay, BadDeed, BadName, BadVerbs, NoFolder, NoLink, NoThing, NotLet, Quarrel, Taken, Wider,
)
from whatopened.facts import Facts
from whatopened.houses import House
from whatopened.stories import Story
from whatopened.trees import Tree
from worlds import snapshot, story_of, told_story, worlds_of

HOUSE = House(["b", "a", "c"], ["u", "t"])
NOT_NAMES = [*any_objects(), ("a",), "Ann", "read ", "a-b"]


def as_told(deed):
    """A deed as it is told, with tuples for lists."""
    return tuple(tuple(part) if isinstance(part, list) else part for part in deed)


# ka and its like lie at a, kw and what was made from it are withdrawn, c does not lie below a, u was moved.
BASE = [
    ("link", "ka", "ann", "a", ("send", "read"), 5), ("link", "kw", "ann", "c", ("read",), None),
    ("narrow", "kv", "kw", "bob", "c", ("read",), 3), ("link", "kc", "cy", "c", ("read",), None),
    ("withdraw", "kw"), ("move", "u", "c"), ("tried", "ka", "read", "u", 0, False), ("move", "u", "a"),
    ("tried", "ka", "read", "t", 5, False), ("link", "ke", "ann", "a", ("read",), None),
]


class Stories(Looking):
    def looks(self, story, facts=(), links=(), deeds=None):
        """The story tells these facts and links, and these deeds if they are given."""
        self.assertIs(type(story.facts()), Facts)
        self.assertEqual(story.facts(), Facts(story.house, facts))
        self.assertEqual(story.links(), list(links))
        if deeds is not None:
            self.assertEqual(story.deeds(), [as_told(deed) for deed in deeds])

    def refused(self, kind, attribute, thing, story, deed):
        """The deed raises just this error, and the story stays as it is."""
        before = snapshot(story)
        self.raised(kind, attribute, thing, story.done, deed)
        self.assertEqual(snapshot(story), before)

    def quarrels(self, story, deed, fact):
        """The deed raises Quarrel with a topless group of the facts and the one that it tells; () if it tells none."""
        told = story.facts().told()
        with self.assertRaises(Quarrel) as caught:
            story.done(deed)
        self.assertIs(type(caught.exception), Quarrel)
        if fact is None:
            self.assertEqual(caught.exception.nodes, ())
        else:
            self.group(story.house, [*told, fact], caught.exception.nodes)
        self.assertEqual(story.facts().told(), told)

    def first_of(self, story, word, choices):
        """Of all that is wrong at once, the error that is told first is raised.

        choices has a list for each place of the deed: pairs of what stands there and None, or the rank of its error,
        its kind and its attribute.
        """
        for row in product(*choices):
            deed = (word, *[thing for thing, wrong in row])
            wrong = sorted([(*wrong, at) for at, (thing, wrong) in enumerate(row, 1) if wrong], key=lambda one: one[0])
            if not wrong:
                story.done(deed)
                continue
            rank, kind, attribute, at = wrong[0]
            if attribute is None:
                with self.assertRaises(kind):
                    story.done(deed)
            else:
                self.refused(kind, attribute, deed[1] if kind in (Wider, NotLet) else deed[at], story, deed)


class AStory(Stories):
    def test_without_any_deed(self):
        story = Story(HOUSE)
        self.assertEqual(story.house, HOUSE)
        self.looks(story, [], [], [])
        self.assertEqual([story.place(thing) for thing in HOUSE.things], ["u", "t"])

    def test_of_a_house_without_things(self):
        house = House(["a"])
        story = story_of(house, [("link", "k", "ann", "a", ["read"], None)])
        self.looks(story, [], ["k"], [("link", "k", "ann", "a", ("read",), None)])

    def test_a_story_never_changes(self):
        story = Story(HOUSE)
        stories = [story]
        for deed in BASE:
            stories.append(stories[-1].done(deed))
        for at, one in enumerate(stories):
            self.assertEqual(one, story_of(HOUSE, BASE[:at]))
            self.assertEqual(one.deeds(), BASE[:at])
        self.looks(story, [], [], [])
        self.assertEqual(stories[1].link("ka"), ("ann", "a", ("read", "send"), 5, None))
        self.assertEqual(stories[5].place("u"), "u")

    def test_two_stories_behind_one(self):
        story = story_of(HOUSE, BASE[:1])
        one, other = story.done(("withdraw", "ka")), story.done(("pass", "ka", "bob"))
        self.assertEqual((one.links(), other.links(), story.links()), ([], ["ka"], ["ka"]))
        self.assertEqual((other.link("ka")[0], story.link("ka")[0]), ("bob", "ann"))

    def test_lists_that_are_returned_are_new(self):
        story = story_of(HOUSE, BASE)
        for call in (story.deeds, story.links):
            told = call()
            self.assertIs(type(told), list)
            call().clear()
            call().append("k")
            self.assertEqual(call(), told)
        facts = story.facts()
        facts.told().clear()
        self.assertEqual(story.facts(), facts)

    def test_what_is_passed_is_copied(self):
        verbs = ["send", "read"]
        deed = ["link", "k", "ann", "a", verbs, None]
        story = Story(HOUSE).done(deed)
        narrow = story.done(["narrow", "l", "k", "bob", "a", verbs, 3]).done(("shorten", "k", verbs, 9))
        self.assertEqual(verbs, ["send", "read"])
        verbs.clear()
        deed[1] = "z"
        self.assertEqual(story.deeds(), [("link", "k", "ann", "a", ("send", "read"), None)])
        for one, last in ((story.link("k"), None), (narrow.link("k"), 9), (narrow.link("l"), 3)):
            self.assertEqual(one[2:4], (("read", "send"), last))
        self.assertEqual([deed[-2] for deed in narrow.deeds()], [("send", "read")] * 3)

    def test_deeds_are_told_as_tuples(self):
        lists = [[list(part) if isinstance(part, tuple) else part for part in deed] for deed in BASE]
        story = story_of(HOUSE, lists)
        self.assertEqual(story.deeds(), BASE)
        for deed in story.deeds():
            self.assertIs(type(deed), tuple)
            self.assertEqual([part for part in deed if isinstance(part, list)], [])
        self.assertEqual(story, story_of(HOUSE, BASE))

    def test_arguments_by_name(self):
        story = Story(house=HOUSE).done(deed=BASE[0])
        self.assertEqual(story.link(name="ka"), ("ann", "a", ("read", "send"), 5, None))
        self.assertEqual(story.place(thing="u"), "u")

    def test_two_stories_are_equal(self):
        story = story_of(HOUSE, BASE)
        self.assertEqual(story, story_of(House(("b", "a", "c"), ("u", "t")), BASE))
        self.assertFalse(story != story_of(HOUSE, BASE))
        self.assertEqual(Story(HOUSE), Story(HOUSE))
        for other in (story_of(HOUSE, BASE[:-1]), story_of(HOUSE, BASE[1:2]), Story(HOUSE),
                      story_of(House(["a", "b", "c"], ["u", "t"]), BASE), story_of(House(["b", "a", "c"], ["t", "u"]), BASE)):
            self.assertFalse(story == other)
            self.assertTrue(story != other)
        self.assertNotEqual(Story(HOUSE), Story(House(["b", "a"], ["c", "u", "t"])))

    def test_stories_that_come_to_the_same_by_other_deeds(self):
        one = story_of(HOUSE, [BASE[0], ("pass", "ka", "bob"), ("pass", "ka", "ann")])
        self.assertNotEqual(one, story_of(HOUSE, BASE[:1]))
        verbs = [("link", "k", "ann", "a", ("read", "send"), 5), ("link", "k", "ann", "a", ("send", "read"), 5)]
        self.assertNotEqual(story_of(HOUSE, verbs[:1]), story_of(HOUSE, verbs[1:]))

    def test_a_story_equals_nothing_else(self):
        for story in (Story(HOUSE), story_of(HOUSE, BASE)):
            for thing in [*any_objects(), HOUSE, Tree(HOUSE, {}), Facts(HOUSE), story.deeds(), story.facts()]:
                self.assertIs(story == thing, False)
                self.assertIs(thing == story, False)


class FirstLinks(Stories):
    def test_what_is_made(self):
        story = Story(HOUSE).done(("link", "k", "ann", "a", ("send", "read"), 5))
        self.looks(story, [], ["k"])
        self.assertEqual(story.link("k"), ("ann", "a", ("read", "send"), 5, None))
        story = story.done(("link", "j", "ann", "a", ["x"], None))
        self.looks(story, [], ["k", "j"])
        self.assertEqual(story.link("j"), ("ann", "a", ("x",), None, None))

    def test_names_of_links_persons_verbs_and_nodes_may_be_the_same(self):
        story = Story(HOUSE).done(("link", "a", "a", "a", ("a",), 0))
        self.assertEqual(story.link("a"), ("a", "a", ("a",), 0, None))

    def test_days_far_away(self):
        for last in (999999999, -999999999, 0):
            self.assertEqual(Story(HOUSE).done(("link", "k", "ann", "a", ["x"], last)).link("k")[3], last)

    def test_wrong_names(self):
        story = story_of(HOUSE, BASE)
        for thing in NOT_NAMES:
            self.refused(BadName, "name", thing, story, ("link", thing, "ann", "a", ["read"], 5))
            self.refused(BadName, "name", thing, story, ("link", "k", thing, "a", ["read"], 5))
        for name in ("ka", "kw", "kv"):
            self.refused(Taken, "name", name, story, ("link", name, "ann", "a", ["read"], 5))

    def test_wrong_folders_verbs_and_days(self):
        story = story_of(HOUSE, BASE)
        for thing in [*any_objects(), "t", "x", "ka"]:
            self.refused(NoFolder, "folder", thing, story, ("link", "k", "ann", thing, ["read"], 5))
        for thing in [*any_objects(), "read", ["read", "read"], ("read", 5), ["read", "Read"], {"read": 1}, HOUSE,
                      ("read", ("send",)), Facts(HOUSE)]:
            self.refused(BadVerbs, "verbs", thing, story, ("link", "k", "ann", "a", thing, 5))
        for thing in any_objects():
            if thing is not None and (isinstance(thing, bool) or not isinstance(thing, int)):
                self.refused(BadDay, "day", thing, story, ("link", "k", "ann", "a", ["read"], thing))

    def test_several_wrong_at_once(self):
        self.first_of(story_of(HOUSE, BASE), "link", [
            [("k", None), ("K", (0, BadName, "name")), (None, (0, BadName, "name")), ("kw", (1, Taken, "name"))],
            [("ann", None), (5, (2, BadName, "name"))],
            [("a", None), ("t", (3, NoFolder, "folder"))],
            [(["read"], None), ([], (4, BadVerbs, "verbs"))],
            [(None, None), (True, (5, BadDay, "day"))],
        ])


class NarrowerLinks(Stories):
    def test_at_the_same_folder(self):
        story = story_of(HOUSE, [BASE[0], ("narrow", "k", "ka", "bob", "a", ["read"], 5)])
        self.looks(story, [], ["ka", "k"])
        self.assertEqual(story.link("k"), ("bob", "a", ("read",), 5, "ka"))

    def test_at_another_folder(self):
        story = story_of(HOUSE, [BASE[0], ("narrow", "k", "ka", "bob", "b", ["send", "read"], 3),
                                 ("narrow", "l", "k", "ann", "c", ["send"], 2)])
        self.looks(story, [("below", "b", "a"), ("below", "c", "b")], ["ka", "k", "l"])
        self.assertEqual(story.link("l"), ("ann", "c", ("send",), 2, "k"))

    def test_told_once(self):
        deeds = [BASE[0], ("narrow", "k", "ka", "bob", "b", ["read"], 3), ("narrow", "l", "ka", "bob", "b", ["read"], 3)]
        self.looks(story_of(HOUSE, deeds), [("below", "b", "a")], ["ka", "k", "l"])

    def test_a_chain_of_links(self):
        deeds = [("link", "k", "ann", "a", ["read", "send", "x"], None), ("narrow", "l", "k", "bob", "a", ["x", "read"], 9),
                 ("narrow", "m", "l", "cy", "a", ["read"], 7)]
        story = story_of(HOUSE, deeds)
        self.assertEqual(story.link("m"), ("cy", "a", ("read",), 7, "l"))
        story = story.done(("shorten", "k", ["read", "send"], 4))
        self.assertEqual(story.link("k"), ("ann", "a", ("read", "send"), 4, None))
        self.assertEqual(story.link("l"), ("bob", "a", ("read",), 4, "k"))
        self.assertEqual(story.link("m"), ("cy", "a", ("read",), 4, "l"))
        story = story.done(("shorten", "k", ["send"], 2))
        self.assertEqual(story.link("l"), ("bob", "a", (), 2, "k"))
        self.assertEqual(story.link("m"), ("cy", "a", (), 2, "l"))

    def test_what_is_wider(self):
        story = story_of(HOUSE, [BASE[0], ("narrow", "l", "ka", "bob", "a", ["read"], 3)])
        for verbs, last in ((["x"], 3), (["read", "send"], 3), (["read"], 4), (["read"], None), (["send"], 3)):
            self.refused(Wider, "name", "m", story, ("narrow", "m", "l", "cy", "a", verbs, last))
        for last in (3, 2, -999999999):
            self.assertEqual(story.done(("narrow", "m", "l", "cy", "a", ["read"], last)).link("m")[3], last)

    def test_wider_than_what_its_maker_lets_now(self):
        story = story_of(HOUSE, [("link", "k", "ann", "a", ["read", "send"], None),
                                 ("narrow", "l", "k", "bob", "a", ["read", "send"], None), ("shorten", "k", ["send"], 6)])
        self.refused(Wider, "name", "m", story, ("narrow", "m", "l", "cy", "a", ["read"], 6))
        self.refused(Wider, "name", "m", story, ("narrow", "m", "l", "cy", "a", ["send"], 7))
        self.refused(Wider, "name", "m", story, ("narrow", "m", "l", "cy", "a", ["send"], None))
        self.assertEqual(story.done(("narrow", "m", "l", "cy", "a", ["send"], 6)).link("m"), ("cy", "a", ("send",), 6, "l"))

    def test_no_end_from_no_end(self):
        story = story_of(HOUSE, [("link", "k", "ann", "a", ["read"], None), ("narrow", "l", "k", "bob", "a", ["read"], None)])
        self.assertEqual(story.link("l")[3], None)
        self.assertEqual(story.done(("shorten", "k", ["read"], 4)).link("l")[3], 4)

    def test_no_tree_fits(self):
        story = story_of(HOUSE, BASE)
        self.quarrels(story, ("narrow", "k", "ka", "bob", "c", ["read"], 3), ("below", "c", "a"))
        story = story_of(HOUSE, [BASE[0], ("narrow", "k", "ka", "bob", "b", ["read"], 3)])
        self.quarrels(story, ("narrow", "l", "k", "bob", "a", ["read"], 3), ("below", "a", "b"))

    def test_makers_that_do_not_stand(self):
        story = story_of(HOUSE, BASE)
        for thing in [*any_objects(), "kw", "kv", "x", "a", ("ka",), ["ka"]]:
            self.refused(NoLink, "name", thing, story, ("narrow", "k", thing, "bob", "a", ["read"], 3))
        self.refused(Taken, "name", "ka", story, ("narrow", "ka", "ka", "bob", "a", ["read"], 3))
        self.refused(NoLink, "name", "k", story, ("narrow", "k", "k", "bob", "a", ["read"], 3))

    def test_wrong_things(self):
        story = story_of(HOUSE, BASE)
        for thing in NOT_NAMES:
            self.refused(BadName, "name", thing, story, ("narrow", thing, "ka", "ann", "a", ["read"], 5))
            self.refused(BadName, "name", thing, story, ("narrow", "k", "ka", thing, "a", ["read"], 5))
        for thing in [*any_objects(), "t", "x"]:
            self.refused(NoFolder, "folder", thing, story, ("narrow", "k", "ka", "ann", thing, ["read"], 5))
        for thing in [*any_objects(), "read", ["read", "read"]]:
            self.refused(BadVerbs, "verbs", thing, story, ("narrow", "k", "ka", "ann", "a", thing, 5))
        for thing in [*no_lists(), []]:
            if thing is not None and (isinstance(thing, bool) or not isinstance(thing, int)):
                self.refused(BadDay, "day", thing, story, ("narrow", "k", "ka", "ann", "a", ["read"], thing))

    def test_several_wrong_at_once(self):
        self.first_of(story_of(HOUSE, BASE), "narrow", [
            [("k", None), ("K", (0, BadName, "name")), ("kw", (1, Taken, "name"))],
            [("ka", None), ("kw", (2, NoLink, "name")), ({}, (2, NoLink, "name"))],
            [("ann", None), (5, (3, BadName, "name"))],
            [("a", None), ("t", (4, NoFolder, "folder")), ("c", (8, Quarrel, None))],
            [(["read"], None), ([], (5, BadVerbs, "verbs")), (["read", "x"], (7, Wider, "name"))],
            [(5, None), (True, (6, BadDay, "day")), (None, (7, Wider, "name")), (6, (7, Wider, "name"))],
        ])


class LinksPassedOnShortenedAndWithdrawn(Stories):
    def test_passed_on(self):
        story = story_of(HOUSE, BASE).done(("pass", "ka", "dee"))
        self.assertEqual(story.link("ka"), ("dee", "a", ("read", "send"), 5, None))
        self.looks(story, story_of(HOUSE, BASE).facts().told(), ["ka", "kc", "ke"], [*BASE, ("pass", "ka", "dee")])

    def test_nothing_to_do(self):
        story = story_of(HOUSE, BASE)
        for deed in (("pass", "ka", "ann"), ("shorten", "ka", ("read", "send"), 5), ("move", "u", "a")):
            behind = story.done(deed)
            self.assertEqual(behind.link("ka"), story.link("ka"))
            self.assertEqual(behind.deeds(), [*BASE, deed])
            self.assertNotEqual(behind, story)
            self.assertEqual(behind.place("u"), "a")

    def test_what_was_made_from_a_link_keeps_its_own_person(self):
        deeds = [BASE[0], ("narrow", "l", "ka", "bob", "a", ["read"], 3), ("pass", "ka", "cy")]
        self.assertEqual(story_of(HOUSE, deeds).link("l"), ("bob", "a", ("read",), 3, "ka"))

    def test_shortened(self):
        story = story_of(HOUSE, BASE)
        self.assertEqual(story.done(("shorten", "ka", ["send"], -3)).link("ka"), ("ann", "a", ("send",), -3, None))
        self.assertEqual(story.done(("shorten", "kc", ["read"], None)).link("kc"), ("cy", "c", ("read",), None, None))
        story = story.done(("shorten", "ka", ["read"], 4)).done(("shorten", "ka", ["read"], 2))
        self.assertEqual(story.link("ka"), ("ann", "a", ("read",), 2, None))
        self.refused(Wider, "name", "ka", story, ("shorten", "ka", ["read"], 4))
        self.refused(Wider, "name", "ka", story, ("shorten", "ka", ["send"], 2))

    def test_shortened_by_its_maker_already(self):
        deeds = [("link", "k", "ann", "a", ["read", "send"], None), ("narrow", "l", "k", "bob", "a", ["read", "send"], None),
                 ("shorten", "k", ["send"], 6)]
        story = story_of(HOUSE, deeds)
        for verbs, last in ((["read"], 5), (["send"], None), (["send"], 7), (["read", "send"], 6)):
            self.refused(Wider, "name", "l", story, ("shorten", "l", verbs, last))
        self.assertEqual(story.done(("shorten", "l", ["send"], 6)).link("l"), ("bob", "a", ("send",), 6, "k"))
        gone = story.done(("shorten", "l", ["send"], 5)).done(("narrow", "m", "k", "cy", "a", ["send"], 6))
        self.assertEqual(gone.links(), ["k", "l", "m"])

    def test_no_verb_is_left(self):
        deeds = [("link", "k", "ann", "a", ["read", "send"], 9), ("narrow", "l", "k", "bob", "a", ["read"], 8),
                 ("shorten", "k", ["send"], 6)]
        story = story_of(HOUSE, deeds)
        self.assertEqual(story.link("l"), ("bob", "a", (), 6, "k"))
        for verb in ("read", "send"):
            self.refused(Wider, "name", "l", story, ("shorten", "l", [verb], 1))
            self.refused(Wider, "name", "m", story, ("narrow", "m", "l", "bob", "a", [verb], 1))

    def test_withdrawn_with_all_that_was_made_from_it(self):
        deeds = [BASE[0], ("narrow", "l", "ka", "bob", "a", ["read"], 3), BASE[3], ("narrow", "m", "l", "bob", "a", ["read"], 3),
                 ("narrow", "n", "ka", "ann", "b", ["read"], 3)]
        story = story_of(HOUSE, deeds)
        self.assertEqual(story.links(), ["ka", "l", "kc", "m", "n"])
        self.assertEqual(story.done(("withdraw", "l")).links(), ["ka", "kc", "n"])
        self.assertEqual(story.done(("withdraw", "m")).links(), ["ka", "l", "kc", "n"])
        self.assertEqual(story.done(("withdraw", "ka")).links(), ["kc"])
        self.assertEqual(story.done(("withdraw", "kc")).links(), ["ka", "l", "m", "n"])
        self.looks(story.done(("withdraw", "ka")), [("below", "b", "a")], ["kc"])

    def test_what_is_withdrawn_does_not_come_back(self):
        story = story_of(HOUSE, BASE)
        for name in ("kw", "kv"):
            for deed in (("withdraw", name), ("pass", name, "ann"), ("shorten", name, ["read"], 1),
                         ("tried", name, "read", "t", 0, False), ("narrow", "k", name, "ann", "c", ["read"], 1)):
                self.refused(NoLink, "name", name, story, deed)
            self.refused(Taken, "name", name, story, ("link", name, "ann", "a", ["read"], 1))

    def test_links_that_do_not_stand(self):
        story = story_of(HOUSE, BASE)
        for thing in [*any_objects(), "x", "a", "ann", ("ka",), ["ka"]]:
            self.refused(NoLink, "name", thing, story, ("pass", thing, "bob"))
            self.refused(NoLink, "name", thing, story, ("shorten", thing, ["read"], 1))
            self.refused(NoLink, "name", thing, story, ("withdraw", thing))
            self.raised(NoLink, "name", thing, story.link, thing)

    def test_wrong_persons_verbs_and_days(self):
        story = story_of(HOUSE, BASE)
        for thing in NOT_NAMES:
            self.refused(BadName, "name", thing, story, ("pass", "ka", thing))
        for thing in [*any_objects(), "read", ["read", "read"], ("read", None)]:
            self.refused(BadVerbs, "verbs", thing, story, ("shorten", "ka", thing, 1))
        for thing in [*no_lists(), []]:
            if thing is not None and (isinstance(thing, bool) or not isinstance(thing, int)):
                self.refused(BadDay, "day", thing, story, ("shorten", "ka", ["read"], thing))

    def test_several_wrong_at_once(self):
        story = story_of(HOUSE, BASE)
        self.first_of(story, "pass", [
            [("ka", None), ("kw", (0, NoLink, "name"))], [("bob", None), ("", (1, BadName, "name"))],
        ])
        self.first_of(story, "shorten", [
            [("ka", None), ("kw", (0, NoLink, "name")), ([], (0, NoLink, "name"))],
            [(["read"], None), ((), (1, BadVerbs, "verbs")), (["x", "read"], (3, Wider, "name"))],
            [(5, None), ("5", (2, BadDay, "day")), (6, (3, Wider, "name")), (None, (3, Wider, "name"))],
        ])


class Moves(Stories):
    def test_the_place_of_a_thing(self):
        story = Story(HOUSE)
        self.assertEqual(story.place("t"), "t")
        story = story.done(("move", "t", "b"))
        self.assertEqual((story.place("t"), story.place("u")), ("b", "u"))
        story = story.done(("move", "t", "c")).done(("move", "u", "c"))
        self.assertEqual((story.place("t"), story.place("u")), ("c", "c"))
        self.looks(story, [], [], [("move", "t", "b"), ("move", "t", "c"), ("move", "u", "c")])

    def test_things_and_folders_that_are_none(self):
        story = story_of(HOUSE, BASE)
        for thing in [*any_objects(), "a", "x", "ka", ("t",)]:
            self.refused(NoThing, "thing", thing, story, ("move", thing, "a"))
            self.raised(NoThing, "thing", thing, story.place, thing)
        for thing in [*any_objects(), "t", "x", ["a"]]:
            self.refused(NoFolder, "folder", thing, story, ("move", "t", thing))

    def test_several_wrong_at_once(self):
        self.first_of(story_of(HOUSE, BASE), "move", [
            [("t", None), ("a", (0, NoThing, "thing")), ({}, (0, NoThing, "thing"))],
            [("a", None), ("t", (1, NoFolder, "folder")), (None, (1, NoFolder, "folder"))],
        ])


class Trials(Stories):
    LINK = ("link", "k", "ann", "a", ["read"], 5)

    def test_it_opened_or_not(self):
        story = Story(HOUSE).done(self.LINK)
        self.looks(story.done(("tried", "k", "read", "t", 5, True)), [("below", "t", "a")], ["k"])
        self.looks(story.done(("tried", "k", "read", "t", -7, False)), [("not", "t", "a")], ["k"])

    def test_in_the_order_in_which_they_were_told(self):
        story = story_of(HOUSE, [self.LINK, ("tried", "k", "read", "u", 0, True), ("tried", "k", "read", "t", 0, False),
                                 ("tried", "k", "read", "u", 1, True), ("link", "l", "bob", "b", ["x"], None),
                                 ("tried", "l", "x", "u", 10 ** 8, False)])
        self.looks(story, [("below", "u", "a"), ("not", "t", "a"), ("not", "u", "b")], ["k", "l"])
        self.assertEqual(len(story.deeds()), 6)

    def test_a_link_that_does_not_let_it_tells_nothing(self):
        story = Story(HOUSE).done(self.LINK)
        for verb, day in (("send", 5), ("read", 6), ("send", 6), ("reads", 0)):
            self.looks(story.done(("tried", "k", verb, "t", day, False)), [], ["k"])
            self.refused(NotLet, "name", "k", story, ("tried", "k", verb, "t", day, True))
        story = story.done(("tried", "k", "read", "t", 5, True))
        self.looks(story.done(("tried", "k", "read", "t", 6, False)), [("below", "t", "a")], ["k"])

    def test_a_link_without_an_end(self):
        story = Story(HOUSE).done(("link", "k", "ann", "a", ["read"], None))
        self.looks(story.done(("tried", "k", "read", "t", 999999999, True)), [("below", "t", "a")], ["k"])

    def test_what_lets_is_asked_of_all_links_from_which_it_was_made(self):
        story = story_of(HOUSE, [("link", "k", "ann", "a", ["read", "x"], 5), ("narrow", "l", "k", "bob", "a", ["read", "x"], 5),
                                 ("shorten", "k", ["x"], 3)])
        self.refused(NotLet, "name", "l", story, ("tried", "l", "read", "t", 0, True))
        self.refused(NotLet, "name", "l", story, ("tried", "l", "x", "t", 4, True))
        self.looks(story.done(("tried", "l", "x", "t", 3, True)), [("below", "t", "a")], ["k", "l"])

    def test_a_moved_thing_is_told_of_by_its_place(self):
        story = story_of(HOUSE, [self.LINK, ("move", "t", "c"), ("tried", "k", "read", "t", 5, True)])
        self.looks(story, [("below", "c", "a")], ["k"])
        story = story.done(("move", "t", "b")).done(("tried", "k", "read", "t", 5, False))
        self.looks(story, [("below", "c", "a"), ("not", "b", "a")], ["k"])

    def test_a_place_that_is_the_folder_of_the_link(self):
        story = story_of(HOUSE, [self.LINK, ("move", "t", "a")])
        self.looks(story.done(("tried", "k", "read", "t", 5, True)), [], ["k"])
        self.quarrels(story, ("tried", "k", "read", "t", 5, False), None)
        self.looks(story.done(("tried", "k", "read", "t", 6, False)), [], ["k"])
        self.refused(NotLet, "name", "k", story, ("tried", "k", "send", "t", 5, True))

    def test_no_tree_fits(self):
        story = story_of(HOUSE, [self.LINK, ("tried", "k", "read", "t", 5, True), ("link", "l", "ann", "b", ["read"], None)])
        self.quarrels(story, ("tried", "k", "read", "t", 5, False), ("not", "t", "a"))
        story = story.done(("tried", "l", "read", "t", 5, False)).done(("narrow", "m", "l", "ann", "c", ["read"], None))
        self.quarrels(story, ("tried", "m", "read", "t", 5, True), ("below", "t", "c"))

    def test_wrong_things(self):
        story = story_of(HOUSE, BASE)
        for thing in [*any_objects(), "kw", "x", ("ka",), ["ka"]]:
            self.refused(NoLink, "name", thing, story, ("tried", thing, "read", "t", 0, False))
        for thing in NOT_NAMES:
            self.refused(BadName, "name", thing, story, ("tried", "ka", thing, "t", 0, False))
        for thing in [*any_objects(), "a", "x", ("t",)]:
            self.refused(NoThing, "thing", thing, story, ("tried", "ka", "read", thing, 0, False))
        for thing in any_objects():
            if isinstance(thing, bool) or not isinstance(thing, int):
                self.refused(BadDay, "day", thing, story, ("tried", "ka", "read", "t", thing, False))
            if not isinstance(thing, bool):
                self.refused(BadAnswer, "answer", thing, story, ("tried", "ka", "read", "t", 0, thing))

    def test_several_wrong_at_once(self):
        self.first_of(story_of(HOUSE, BASE), "tried", [
            [("ka", None), ("kw", (0, NoLink, "name"))],
            [("read", None), ("R", (1, BadName, "name"))],
            [("t", None), ("a", (2, NoThing, "thing"))],
            [(5, None), (None, (3, BadDay, "day"))],
            # t does not lie below a: that it opened is a quarrel.
            [(False, None), (0, (4, BadAnswer, "answer")), (True, (6, Quarrel, None))],
        ])
        self.first_of(story_of(HOUSE, BASE), "tried", [
            [("ka", None), ("kw", (0, NoLink, "name"))],
            [("x", None), ("R", (1, BadName, "name"))],
            [("t", None), ("a", (2, NoThing, "thing"))],
            [(5, None), (None, (3, BadDay, "day"))],
            [(False, None), (None, (4, BadAnswer, "answer")), (True, (5, NotLet, "name"))],
        ])


class WhatIsADeed(Stories):
    def test_any_objects(self):
        wrong = [
            *any_objects(), ("link",), ("Link", "k", "ann", "a", ["read"], 5), ("links", "k", "ann", "a", ["read"], 5),
            "withdraw", {"withdraw": 1, "ka": 2}, House(["withdraw", "ka"]), ("ka", "withdraw"), (("withdraw",), "ka"),
            ("done", "ka"), ("withdraw ", "ka"), [("withdraw", "ka")],
        ]
        for deed in (*BASE, ("pass", "ka", "bob"), ("shorten", "ka", ("read",), 1)):
            wrong += [deed[:-1], (*deed, None), ("x", *deed[1:]), deed[1:]]
            wrong += [(thing, *deed[1:]) for thing in any_objects()]
        for story in (Story(HOUSE), story_of(HOUSE, BASE)):
            for thing in wrong:
                self.refused(BadDeed, "deed", thing, story, thing)

    def test_ahead_of_all_other_errors(self):
        story = story_of(HOUSE, BASE)
        for deed in (("withdraw", None, None), ("link", None, None, None, None), ("tried", 1, 2, 3, 4)):
            self.refused(BadDeed, "deed", deed, story, deed)


class StoriesThatHappenInATree(Stories):
    def test_just_the_trees_fit_in_which_the_deeds_come_out_so(self):
        told = 0
        for house in (*SMALL[1:], LARGER[0]):
            for seed in range(20):
                deeds, over = told_story(house, seed, 24)
                story = story_of(house, deeds)
                facts = story.facts().told()
                self.assertEqual([fact for fact in facts if not holds_in(over, fact)], [])
                overs = [there for world, there in worlds_of(house, deeds)]
                self.assertEqual(overs, [trees_of(house).overs[at] for at in trees_of(house).fitting(facts)])
                self.assertEqual(story.deeds(), [as_told(deed) for deed in deeds])
                told += len(facts)
        self.assertGreater(told, 150)

    def test_links_and_places_are_as_they_come_out(self):
        for house in (*SMALL[1:], *LARGER, *FULL):
            for seed in range(100, 120):
                deeds, over = told_story(house, seed, 30)
                [[world, there]] = worlds_of(house, deeds, [over])
                story = story_of(house, deeds)
                self.assertEqual(story.links(), list(world.links))
                for name, link in world.links.items():
                    verbs = tuple(sorted(world.verbs(name)))
                    wanted = (link["person"], link["folder"], verbs, world.last(name), link["maker"])
                    self.assertEqual(story.link(name), wanted)
                for thing in house.things:
                    moved = [deed[2] for deed in deeds if deed[:2] == ("move", thing)]
                    self.assertEqual(story.place(thing), [thing, *moved][-1])

    def test_a_deed_that_comes_out_in_no_tree_is_refused(self):
        refused = 0
        for house in SMALL[3:]:
            for seed in range(200, 212):
                deeds, over = told_story(house, seed, 16)
                story = story_of(house, deeds)
                for name, thing in product(story.links(), house.things):
                    for opened in (True, False):
                        deed = ("tried", name, "read", thing, 0, opened)
                        if worlds_of(house, [*deeds, deed]):
                            self.assertEqual(story.done(deed).links(), story.links())
                        else:
                            refused += 1
                            with self.assertRaises((Quarrel, NotLet)):
                                story.done(deed)
        self.assertGreater(refused, 60)

    def test_facts_are_about_the_house(self):
        for house in LARGER:
            deeds, over = told_story(house, 400, 30)
            for fact in story_of(house, deeds).facts():
                self.assertIn(fact, all_facts(house))


if __name__ == "__main__":
    unittest.main()
