"""What the document promises over the whole program: [1] to [4], and [22] to [32] under other names and in the true tree."""

import unittest
from copy import deepcopy
from importlib import import_module
from itertools import permutations, product

from anything import way_up
from interface import FUNCTIONS, METHODS
from looking import FULL, LARGER, SMALL
from whatopened.desks import Desk
from whatopened.facts import Facts
from whatopened.houses import House
from whatopened.moves import gains, harmless
from whatopened.rights import can, copied, unlike, who, why_can
from whatopened.stops import lost, stops
from whatopened.stories import Story
from whatopened.texts import written
from whatopened.trees import Tree
from worlds import NAMES, PERSONS, VERBS, InWorlds, snapshot, story_of, told_story, worlds_of

HOUSE = House(["b", "a", "c"], ["u", "t"])
FACTS = Facts(HOUSE, [("below", "t", "a"), ("not", "u", "a"), ("line", "b", "a")])
BAD = Facts(HOUSE, [("below", "a", "b"), ("below", "t", "c"), ("below", "b", "a")])
TREE = Tree(HOUSE, {"a": "b", "t": "a"})
DEEDS = [
    ["link", "k", "ann", "a", ["send", "read"], 5], ["narrow", "l", "k", "bob", "b", ["read"], 3], ["move", "u", "c"],
    ["link", "m", "bob", "c", ["read", "x"], None], ["tried", "k", "read", "t", 0, True], ["move", "t", "c"],
]
STORY = story_of(HOUSE, DEEDS)
PAIRS = [["t", "b"], ["a", "b"], ["b", "a"]]
PLAN = [1, [2, "never", "sure"], "sure"]
# What each function of the interface is passed here.
CALLS = {
    "against": (HOUSE, ["line", "b", "a"]), "tree_for": (FACTS,), "topless": (BAD,), "is_topless": (BAD, ["a", "b"]),
    "verdict": (FACTS, ["line", "a", "b"]), "paper": (FACTS, ["below", "t", "b"]), "one_of": (FACTS, PAIRS),
    "one_paper": (FACTS, [["u", "a"]]), "table": (FACTS,), "alone": (FACTS,), "follows": (FACTS, Facts(HOUSE, [("line", "a", "t")])),
    "parted": (FACTS, Facts(HOUSE, [("below", "b", "a")])), "alike": (FACTS, Facts(HOUSE)), "how_many": (FACTS,),
    "tree_number": (FACTS, 3), "number_of": (FACTS, TREE), "needless": (FACTS + [("line", "t", "a")],), "quarrels": (BAD,),
    "fewest_back": (BAD,), "settles": (FACTS, ["below", "a", "b"], ["b", "a"]),
    "fewest_asked": (Facts(HOUSE), ["line", "a", "b"], PAIRS), "plan": (Facts(HOUSE), ["line", "a", "b"], PAIRS),
    "is_plan": (Facts(HOUSE), ["line", "a", "b"], PAIRS, PLAN), "places": (FACTS, ["t"], ["u"]),
    "covers": (FACTS, ["t"], ["u"]), "as_much": (FACTS, ["a"], ["b", "a"]), "can": (STORY, "ann", "read", "t", 3),
    "why_can": (STORY, "ann", "read", "u", 9), "who": (STORY, "read", "t", 3), "copied": (STORY, "k", "u"),
    "unlike": (STORY, "k", "t"), "gains": (STORY, "u", "b", 2), "harmless": (STORY, 2), "lost": (STORY, ["k", "m"]),
    "stops": (STORY, ["bob", "read", "t", 3], [["ann", "x", "t", 3]]), "written": (FACTS,),
    "read": ("folders b a\nthings t\nb line a\nt below a\n",),
}
# What each method, and each class, is passed; the method of a desk is called on one with deeds of its own.
METHOD_CALLS = {
    House: {"__init__": (["b", "a"], ["t"])},
    Tree: {
        "__init__": (HOUSE, {"t": "a"}), "over": ("t",), "above": ("t",), "below": ("b",), "lies": ("t", "b"),
        "moved": ("a", None), "holds": (["line", "a", "b"],), "keeps": (FACTS,),
    },
    Facts: {"__init__": (HOUSE, [["line", "t", "u"], ["below", "t", "a"]]), "told": (), "without": ([2, 0],)},
    Story: {
        "__init__": (HOUSE,), "done": (["shorten", "k", ["read"], 1],), "facts": (), "deeds": (), "links": (), "link": ("l",),
        "place": ("u",),
    },
    Desk: {
        "__init__": (STORY,), "story": (), "watch": ("v", ["bob", "x", "u", 0]), "unwatch": ("w",), "state": ("w",),
        "names": (), "do": (["withdraw", "m"],), "undo": (), "again": (), "would": ([["withdraw", "k"], ["withdraw", "m"]],),
    },
}


def turned(thing):
    """The same with lists for tuples and tuples for lists, at whatever depth."""
    if isinstance(thing, (list, tuple)):
        parts = [turned(part) for part in thing]
        return parts if isinstance(thing, tuple) else tuple(parts)
    return thing


def spoiled(thing):
    """Changes all lists and dicts in what was told."""
    if isinstance(thing, (list, tuple)):
        for part in thing:
            spoiled(part)
    if isinstance(thing, list):
        thing.append("spoiled")
        thing.reverse()
    if isinstance(thing, dict):
        for key in list(thing):
            thing[key] = "spoiled"
        thing["spoiled"] = 1


def named(thing, names):
    """The same under other names."""
    if isinstance(thing, str):
        return names.get(thing, thing)
    if isinstance(thing, (list, tuple)):
        return type(thing)([named(part, names) for part in thing])
    if isinstance(thing, dict):
        return {named(key, names): named(worth, names) for key, worth in thing.items()}
    return thing


def desk():
    """A desk on which deeds can be taken back and done again."""
    made = Desk(STORY)
    made.watch("w", ("ann", "read", "t", 3))
    made.do(("move", "t", "a"))
    made.do(("pass", "k", "cy"))
    made.undo()
    return made


class HowAllIsCalled(unittest.TestCase):
    def functions(self):
        """The functions of the interface, with their parameters and what they are passed."""
        for place, functions in FUNCTIONS.items():
            for name, parameters in functions.items():
                yield getattr(import_module(place), name), parameters, CALLS[name]

    def methods(self):
        """For each class and method a function that makes a new object, or takes its method."""
        makers = {Tree: lambda: TREE, Facts: lambda: FACTS, Story: lambda: STORY, Desk: desk}
        for kind, calls in METHOD_CALLS.items():
            for name, parts in calls.items():
                parameters = METHODS[kind][name]
                if name == "__init__":
                    yield (lambda kind=kind: kind), parameters, parts
                else:
                    yield (lambda kind=kind, name=name: getattr(makers[kind](), name)), parameters, parts

    def same(self, one, other):
        """Two things that were told are the same; desks are if they tell the same."""
        if isinstance(one, Desk):
            self.assertEqual((one.story(), one.names()), (other.story(), other.names()))
        else:
            self.assertIs(type(one), type(other))
            self.assertEqual(one, other)

    def test_nothing_of_the_interface_is_left_out(self):
        self.assertEqual({name for functions in FUNCTIONS.values() for name in functions}, set(CALLS))
        for kind, methods in METHODS.items():
            plain = {name for name, parameters in methods.items() if parameters is not None}
            self.assertEqual(plain, set(METHOD_CALLS[kind]), kind)

    def test_arguments_by_position_and_by_name_in_any_order(self):
        for call, parameters, parts in self.functions():
            told = call(*parts)
            for order in permutations(list(zip(parameters, parts))):
                self.same(call(**dict(order)), told)
        for made, parameters, parts in self.methods():
            told = made()(*parts)
            for order in permutations(list(zip(parameters, parts))):
                self.same(made()(**dict(order)), told)

    def test_tuples_for_lists_and_lists_for_tuples(self):
        for call, parameters, parts in self.functions():
            told = call(*parts)
            self.same(call(*[turned(part) for part in parts]), told)
            self.same(call(*[turned(turned(part)) for part in parts]), told)
        for made, parameters, parts in self.methods():
            self.same(made()(*[turned(part) for part in parts]), made()(*parts))

    def test_lists_and_dicts_are_told_anew(self):
        for call, parameters, parts in self.functions():
            told = call(*parts)
            kept = deepcopy(told)
            spoiled(told)
            self.same(call(*parts), kept)
        for made, parameters, parts in self.methods():
            call = made()
            told = call(*parts)
            if getattr(call, "__name__", "") in ("told", "deeds", "links", "link", "names", "would"):
                kept = deepcopy(told)
                spoiled(told)
                self.same(call(*parts), kept)

    def test_what_is_passed_stays_as_it_is(self):
        for call, parameters, parts in self.functions():
            before = deepcopy(parts)
            call(*parts)
            self.assertEqual(parts, before)
        for made, parameters, parts in self.methods():
            before = [deepcopy(part) for part in parts]
            made()(*parts)
            self.assertEqual(list(parts), before)
        self.assertEqual(snapshot(STORY), snapshot(story_of(HOUSE, DEEDS)))

    def test_later_changes_of_what_was_passed_have_no_effect(self):
        folders, things, over, rows = ["b", "a"], ["t"], {"t": "a"}, [["line", "t", "a"], ["not", "t", "b"]]
        house = House(folders, things)
        tree, facts = Tree(house, over), Facts(house, rows)
        more, deed, wish = [["not", "b", "a"]], ["link", "k", "ann", "a", ["x"], 3], ["ann", "x", "t", 1]
        both, story = facts + more, Story(house).done(deed)
        kept = Desk(story)
        kept.watch("w", wish)
        kept.do(["tried", "k", "x", "t", 0, True])
        for thing in (folders, things, over, rows, rows[0], more, more[0], deed, deed[4], wish):
            spoiled(thing)
            thing.clear()
        self.assertEqual(house.nodes, ("b", "a", "t"))
        self.assertEqual((tree.over("t"), tree.over("a")), ("a", None))
        self.assertEqual(both.told(), [("line", "a", "t"), ("not", "t", "b"), ("not", "b", "a")])
        self.assertEqual(facts.told(), [("line", "a", "t"), ("not", "t", "b")])
        self.assertEqual((story.deeds(), story.link("k")[2]), ([("link", "k", "ann", "a", ("x",), 3)], ("x",)))
        self.assertEqual((kept.state("w"), kept.story().facts().told()), ("sure", [("below", "t", "a")]))

    def test_truth_values_are_told_as_such(self):
        for name in ("is_topless", "alone", "follows", "alike", "settles", "as_much"):
            found = [call(*parts) for call, parameters, parts in self.functions() if call.__name__ == name]
            self.assertEqual([type(one) for one in found], [bool])


class UnderOtherNames(InWorlds):
    NODES = ("v", "h", "z", "f", "g", "p", "o")

    def names(self, house):
        """Other names, in another order, for nodes, persons, verbs and links."""
        names = dict(zip(house.nodes, self.NODES))
        names.update(zip(PERSONS, ("zoe", "ed", "fay")))
        names.update(zip(VERBS, ("write", "see", "print")))
        names.update(zip(NAMES, [f"link{letter}" for letter in "zyxwvutsrqpo"]))
        return names

    def both(self, start, many, length):
        """Stories of the same deeds under their own names and under others, and the names."""
        for house in (SMALL[3], SMALL[6], SMALL[7], LARGER[0], FULL[1]):
            names = self.names(house)
            other = House(named(house.folders, names), named(house.things, names))
            for seed in range(start, start + many):
                deeds, over = told_story(house, seed, length)
                yield story_of(house, deeds), story_of(other, named(deeds, names)), names

    def test_stories(self):
        for story, other, names in self.both(1700, 5, 24):
            self.assertEqual(other.facts().told(), [named(fact, names) for fact in story.facts()])
            self.assertEqual(other.links(), named(story.links(), names))
            self.assertEqual(other.deeds(), named(story.deeds(), names))
            for name in story.links():
                person, folder, verbs, last, maker = named(story.link(name), names)
                self.assertEqual(other.link(names[name]), (person, folder, tuple(sorted(verbs)), last, maker))
            text = " ".join([" ".join(named(line.split(" "), names)) for line in written(story.facts()).split("\n")])
            self.assertEqual(written(other.facts()).replace("\n", " "), text)

    def test_who_can_and_what_copies_keep(self):
        for story, other, names in self.both(1800, 3, 20):
            for thing in story.house.things:
                for verb in VERBS:
                    told = who(other, names[verb], names[thing], 3)
                    self.assertEqual(told, named(who(story, verb, thing, 3), names))
                    self.assertEqual(list(told), sorted(told))
                    for person in PERSONS:
                        parts = (person, verb, thing, 3)
                        self.assertEqual(can(other, *named(parts, names)), can(story, *parts))
                        one, same = why_can(story, *parts), why_can(other, *named(parts, names))
                        self.assertEqual((type(same), type(same[0]) if same else None), (type(one), type(one[0]) if one else None))
                for name in story.links():
                    for call in (copied, unlike):
                        self.assertEqual(call(other, names[name], names[thing]), call(story, name, thing))

    def test_moves_and_withdrawals(self):
        for story, other, names in self.both(1900, 2, 16):
            self.assertEqual(harmless(other, 0), named(harmless(story, 0), names))
            for thing, folder in product(story.house.things, story.house.folders):
                told = gains(other, names[thing], names[folder], 0)
                self.assertEqual(told, named(gains(story, thing, folder, 0), names))
                self.assertEqual(list(told), sorted(told))
            for name in story.links():
                self.assertEqual(lost(other, [names[name]]), named(lost(story, [name]), names))
            for person in PERSONS:
                wish, kept = (person, "read", story.house.things[0], 0), [("ann", "x", story.house.things[-1], 0)]
                self.assertEqual(stops(other, named(wish, names), []), named(stops(story, wish, []), names))
                self.assertEqual(stops(other, named(wish, names), named(kept, names)), named(stops(story, wish, kept), names))

    def test_desks(self):
        for story, other, names in self.both(2000, 3, 16):
            one, same = Desk(Story(story.house)), Desk(Story(other.house))
            for at, person in enumerate(PERSONS):
                wish = (person, "x", story.house.things[0], 0)
                one.watch("abc"[at], wish)
                same.watch("abc"[at], named(wish, names))
            for deed in story.deeds():
                self.assertEqual(same.do(named(deed, names)), one.do(deed))
            self.assertEqual((one.story(), same.story()), (story, other))
            for deed in story.deeds():
                self.assertEqual(same.undo(), one.undo())


class InTheTrueTree(InWorlds):
    def test_what_is_told_holds(self):
        for house in (*LARGER[:2], FULL[1]):
            for seed in range(2100, 2106):
                deeds, over = told_story(house, seed, 20)
                [[world, same]] = worlds_of(house, deeds, [over])
                story = story_of(house, deeds)
                for word, one, other in story.facts():
                    self.assertIs(other in way_up(over, one), word == "below")
                for thing in house.things:
                    for name, link in world.links.items():
                        kept, lies = thing in link["kept"], world.lies(thing, link["folder"])
                        self.agrees(copied(story, name, thing), kept)
                        self.agrees(unlike(story, name, thing), kept != lies)
                    for person, word in who(story, "x", thing, 0).items():
                        self.agrees(word, world.can(person, "x", thing, 0))
                self.no_more(story, world, ("ann", "read", house.things[0], 0), [("bob", "read", house.things[-1], 0)])

    def agrees(self, word, answer):
        self.assertIn(word, ("sure", "open") if answer else ("never", "open"))

    def no_more(self, story, world, wish, kept):
        """Behind each withdrawal that stops tells, nobody can what is not to be, and others still can."""
        if len(story.links()) <= 8:
            for names in stops(story, wish, kept):
                behind = world.copy()
                behind.withdraw(names)
                self.assertIs(behind.can(*wish), False)
                self.assertEqual([behind.can(*one) for one in kept], [True] * len(kept))

    def test_deeds_taken_back_and_done_again_show_the_very_story(self):
        for house in (LARGER[0], FULL[1], FULL[2]):
            for seed in range(2200, 2204):
                deeds, over = told_story(house, seed, 60)
                made, stories = Desk(Story(house)), [Story(house)]
                for deed in deeds:
                    made.do(deed)
                    stories.append(made.story())
                for story in stories[-2::-1]:
                    made.undo()
                    self.assertEqual((made.story(), snapshot(made.story())), (story, snapshot(story)))
                for at, story in enumerate(stories[1:], 1):
                    made.again()
                    self.assertEqual(snapshot(made.story()), snapshot(story_of(house, deeds[:at])))


if __name__ == "__main__":
    unittest.main()
