"""A house as it is in one tree: the tests let a story happen there, deed by deed, and look at what comes of it."""

from itertools import product
from random import Random

from anything import all_overs, way_up
from looking import LARGER, SMALL, Looking, drawn_over
from whatopened.stories import Story

PERSONS = ("ann", "bob", "cy")
VERBS = ("read", "send", "x")
NAMES = ("ke", "kf", "kg", "le", "lf", "lg", "me", "mf", "mg", "ne", "nf", "ng")


class World:
    """A tree whose things move, with its links and what their copies keep."""

    def __init__(self, house, over):
        self.house = house
        self.over = dict(over)
        self.links = {}
        self.had = []

    def copy(self):
        other = World(self.house, self.over)
        other.links = {name: dict(link) for name, link in self.links.items()}
        other.had = list(self.had)
        return other

    def lies(self, node, folder):
        return folder in way_up(self.over, node)

    def above(self, name):
        """The names of the links from which a link was made, itself first."""
        names = []
        while name is not None:
            names.append(name)
            name = self.links[name]["maker"]
        return names

    def lets(self, name, verb, day):
        links = [self.links[one] for one in self.above(name)]
        return all(verb in link["verbs"] and not (link["last"] is not None and link["last"] < day) for link in links)

    def opens(self, name, verb, thing, day):
        return self.lets(name, verb, day) and self.lies(thing, self.links[name]["folder"])

    def can(self, person, verb, thing, day):
        return any(self.opens(name, verb, thing, day) for name in self.links if self.links[name]["person"] == person)

    def verbs(self, name):
        """The verbs that a link lets on some day."""
        return [verb for verb in self.links[name]["verbs"] if self.lets(name, verb, -10 ** 10)]

    def last(self, name):
        lasts = [self.links[one]["last"] for one in self.above(name)]
        return min([last for last in lasts if last is not None], default=None)

    def withdraw(self, names):
        """Withdraws links, one after the other; what was made from them goes with them."""
        gone = [name for name in self.links if set(self.above(name)) & set(names)]
        for name in gone:
            del self.links[name]
        return gone

    def happens(self, deed):
        """Does a deed that may be done; tells whether it comes out so in this tree."""
        word, name, *things = deed
        if word == "link":
            return self.make(name, None, *things)
        if word == "narrow":
            return self.make(name, *things)
        if word == "pass":
            self.links[name]["person"] = things[0]
        if word == "shorten":
            self.links[name]["verbs"], self.links[name]["last"] = things
        if word == "withdraw":
            self.withdraw([name])
        if word == "move":
            self.over[name] = things[0]
        if word == "tried":
            return self.opens(name, *things[:3]) == things[3]
        return True

    def make(self, name, maker, person, folder, verbs, last):
        self.had.append(name)
        kept = [thing for thing in self.house.things if self.lies(thing, folder)]
        self.links[name] = {"maker": maker, "person": person, "folder": folder, "verbs": verbs, "last": last, "kept": kept}
        return maker is None or folder == self.links[maker]["folder"] or self.lies(folder, self.links[maker]["folder"])


def worlds_of(house, deeds, overs=None):
    """The worlds, one for each tree in which all of the deeds come out as they did, and the trees, as dicts."""
    found = []
    for over in all_overs(house) if overs is None else overs:
        world = World(house, over)
        if all([world.happens(deed) for deed in deeds]):
            found.append((world, over))
    return found


def word_of(answers):
    """The verdict on what is so in some worlds."""
    return {(True,): "sure", (False,): "never", (False, True): "open"}[tuple(sorted(set(answers)))]


class Teller:
    """Draws deeds that come out in a drawn tree."""

    def __init__(self, house, seed):
        self.draw = Random(seed)
        self.house = house
        self.over = drawn_over(house, self.draw)
        self.world = World(house, self.over)

    def name(self):
        """A name that no link has or had."""
        return self.draw.choice([name for name in NAMES if name not in self.world.had])

    def day(self):
        return self.draw.choice([-5, 0, 3, 7])

    def last(self, most):
        return self.draw.choice([last for last in (None, -5, 0, 3, 7) if most is None or (last is not None and last <= most)])

    def some_verbs(self, verbs):
        return self.draw.sample(verbs, self.draw.randint(1, len(verbs)))

    def able(self):
        """The names of the links that let something up to a day on which they can be shortened."""
        names = [name for name in self.world.links if self.world.verbs(name)]
        return [name for name in names if self.world.last(name) is None or self.world.last(name) >= -5]

    def deed(self):
        """A deed that comes out in the tree, or None if no more can be drawn of what was."""
        words = ["link", "narrow", "narrow", "pass", "shorten", "withdraw", "move", *["tried"] * 6]
        word = self.draw.choice(words)
        if word == "move" and self.house.things:
            return ("move", self.draw.choice(self.house.things), self.draw.choice(self.house.folders))
        if word in ("narrow", "shorten") and self.able() and (word == "shorten" or len(self.world.had) < len(NAMES)):
            return self.less(word, self.draw.choice(self.able()))
        if word in ("pass", "withdraw") and len(self.world.links) > 1:
            name = self.draw.choice(list(self.world.links))
            return ("pass", name, self.draw.choice(PERSONS)) if word == "pass" else ("withdraw", name)
        if word == "tried" and self.house.things and self.world.links:
            parts = [self.draw.choice(list(some)) for some in (self.world.links, VERBS, self.house.things)]
            day = self.day()
            return ("tried", *parts, day, self.world.opens(*parts, day))
        if len(self.world.had) == len(NAMES):
            return None
        return ("link", self.name(), self.draw.choice(PERSONS), self.draw.choice(self.house.folders),
                self.some_verbs(VERBS), self.last(None))

    def less(self, word, name):
        """A deed that makes a link from another one, or shortens it."""
        verbs, last = self.some_verbs(self.world.verbs(name)), self.last(self.world.last(name))
        if word == "shorten":
            return ("shorten", name, verbs, last)
        top = self.world.links[name]["folder"]
        folders = [folder for folder in self.house.folders if folder == top or self.world.lies(folder, top)]
        return ("narrow", self.name(), name, self.draw.choice(PERSONS), self.draw.choice(folders), verbs, last)

    def deeds(self, many):
        """So many deeds or less, one behind the other."""
        found = []
        for turn in range(many):
            deed = self.deed()
            if deed is not None:
                assert self.world.happens(deed)
                found.append(deed)
        return found


def told_story(house, seed, many):
    """So many deeds that come out in a drawn tree, and this tree as a dict."""
    teller = Teller(house, seed)
    return teller.deeds(many), teller.over


def story_of(house, deeds):
    """The story behind so many deeds."""
    story = Story(house)
    for deed in deeds:
        story = story.done(deed)
    return story


def snapshot(story):
    """All that a story tells."""
    links = [story.link(name) for name in story.links()]
    return (story.deeds(), story.links(), links, story.facts(), [story.place(thing) for thing in story.house.things])


class InWorlds(Looking):
    """Tests that look at drawn stories beside all worlds in which they happen so."""

    def drawn_stories(self, start, many, length):
        """Stories that happen in small houses with things, and the worlds and trees in which they happen so."""
        for house in (*SMALL[1:], LARGER[0]):
            if house.things:
                for seed in range(start, start + many):
                    deeds, over = told_story(house, seed, length)
                    yield story_of(house, deeds), deeds, worlds_of(house, deeds)

    def first_of(self, call, story, choices):
        """Of all that is wrong at once the error of the first argument is raised, and the story stays as it is."""
        before = snapshot(story)
        for row in product(*choices):
            wrong = [(kind, attribute, thing) for thing, kind, attribute in row if kind]
            if wrong:
                self.raised(*wrong[0], call, story, *[thing for thing, kind, attribute in row])
            else:
                call(story, *[thing for thing, kind, attribute in row])
        self.assertEqual(snapshot(story), before)
