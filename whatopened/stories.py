"""Stories: links that are made, passed on, shortened and withdrawn, trials and moves, and the facts that they tell."""

from whatopened.errors import (
    BadAnswer, BadDay, BadDeed, BadName, BadVerbs, NoLink, NotLet, Quarrel, Taken, Wider,
)
from whatopened.facts import Facts
from whatopened.fitting import topless
from whatopened.houses import must_be_folder, must_be_thing, wrong_name
from whatopened.kinds import is_integer, is_list, is_name


def must_be_name(thing):
    """Raises BadName for any object that is no name."""
    if not is_name(thing):
        raise BadName(thing)


def must_be_day(thing):
    """Raises BadDay for any object that is no day."""
    if not is_integer(thing):
        raise BadDay(thing)


def must_be_rights(verbs, last):
    """Raises BadVerbs, then BadDay for any objects that are not what a link is given to let."""
    if not is_list(verbs) or len(verbs) == 0 or wrong_name(verbs) is not None:
        raise BadVerbs(verbs)
    if last is not None:
        must_be_day(last)


def must_stand(story, name):
    """Raises NoLink for any object that is not the name of a link that stands."""
    # Not in a dict: any object may be no key.
    if name not in story.links():
        raise NoLink(name)


def must_be_new(story, name):
    """Raises BadName, then Taken for any object that cannot be the name of one more link."""
    must_be_name(name)
    if name in story.had:
        raise Taken(name)


def must_not_widen(story, source, name, verbs, last):
    """Raises Wider with the name if the link called source lets less than these verbs up to this last day."""
    person, folder, let, end, maker = story.link(source)
    if any([verb not in let for verb in verbs]) or (end is not None and (last is None or last > end)):
        raise Wider(name)


def lets(story, name, verb, day):
    """Whether a link that stands lets a verb on a day."""
    person, folder, verbs, last, maker = story.link(name)
    return verb in verbs and (last is None or day <= last)


def made_from(story, names):
    """The names of the links that stand and are among these or made from them, in the order of links()."""
    found = []
    for name in story.links():
        # What a link was made from was made ahead of it.
        if name in names or story.standing[name].maker in found:
            found.append(name)
    return found


def tell(story, fact):
    """Adds a fact that was seen."""
    seen = story.seen + [fact]
    nodes = topless(seen)
    if nodes is not None:
        raise Quarrel(nodes)
    story.seen = seen


class Link:
    """A link as it stands by itself, whatever it was made from."""

    def __init__(self, maker, person, folder, verbs, last):
        self.maker = maker
        self.person = person
        self.folder = folder
        self.verbs = verbs
        self.last = last


def chain(links, name):
    """The link of this name, the one from which it was made, and so on."""
    found = []
    while name is not None:
        found.append(links[name])
        name = links[name].maker
    return found


def add_link(story, name, link):
    """Adds a link, under a new name."""
    story.standing[name] = link
    story.had = (*story.had, name)


def do_link(story, name, person, folder, verbs, last):
    """A first link is made."""
    must_be_new(story, name)
    must_be_name(person)
    must_be_folder(story.house, folder)
    must_be_rights(verbs, last)
    add_link(story, name, Link(None, person, folder, tuple(verbs), last))


def do_narrow(story, name, maker, person, folder, verbs, last):
    """A link is made from another one."""
    must_be_new(story, name)
    must_stand(story, maker)
    must_be_name(person)
    must_be_folder(story.house, folder)
    must_be_rights(verbs, last)
    must_not_widen(story, maker, name, verbs, last)
    above = story.standing[maker].folder
    if folder != above:
        tell(story, ("below", folder, above))
    add_link(story, name, Link(maker, person, folder, tuple(verbs), last))


def do_pass(story, name, person):
    """A link is held by another person."""
    must_stand(story, name)
    must_be_name(person)
    link = story.standing[name]
    story.standing[name] = Link(link.maker, person, link.folder, link.verbs, link.last)


def do_shorten(story, name, verbs, last):
    """A link lets less."""
    must_stand(story, name)
    must_be_rights(verbs, last)
    must_not_widen(story, name, name, verbs, last)
    link = story.standing[name]
    story.standing[name] = Link(link.maker, link.person, link.folder, tuple(verbs), last)


def do_withdraw(story, name):
    """A link stands no more, nor any that was made from it."""
    must_stand(story, name)
    gone = made_from(story, [name])
    story.standing = {one: link for one, link in story.standing.items() if one not in gone}


def do_move(story, thing, folder):
    """A thing is moved into a folder."""
    must_be_thing(story.house, thing)
    must_be_folder(story.house, folder)
    story.where[thing] = folder


def do_tried(story, name, verb, thing, day, opened):
    """A link was tried, and opened or not."""
    must_stand(story, name)
    must_be_name(verb)
    must_be_thing(story.house, thing)
    must_be_day(day)
    if not isinstance(opened, bool):
        raise BadAnswer(opened)
    if lets(story, name, verb, day):
        tell_opened(story, story.place(thing), story.standing[name].folder, opened)
    elif opened:
        raise NotLet(name)


def tell_opened(story, place, folder, opened):
    """Adds what a link at a folder tells that opened or did not for what is at a place, though it lets it."""
    if place != folder:
        tell(story, ("below" if opened else "not", place, folder))
    elif not opened:
        raise Quarrel(())


# How long a deed is, its word counted.
SIZES = {"link": 6, "narrow": 7, "pass": 3, "shorten": 4, "withdraw": 2, "move": 3, "tried": 6}
STEPS = {
    "link": do_link, "narrow": do_narrow, "pass": do_pass, "shorten": do_shorten, "withdraw": do_withdraw,
    "move": do_move, "tried": do_tried,
}


def is_deed(thing):
    """Whether any object is a tuple of a word for a deed and so many things behind it."""
    if not is_list(thing) or len(thing) == 0 or not isinstance(thing[0], str):
        return False
    return SIZES.get(thing[0]) == len(thing)


class Story:
    """What was done in a house, deed by deed, and what it tells."""

    def __init__(self, house):
        self.house = house
        self.rows = ()
        self.standing = {}
        self.had = ()
        self.where = {}
        self.seen = Facts(house)

    def done(self, deed):
        """The story behind one more deed."""
        if not is_deed(deed):
            raise BadDeed(deed)
        story = Story(self.house)
        story.standing = dict(self.standing)
        story.had = self.had
        story.where = dict(self.where)
        story.seen = self.seen
        word, *things = deed
        step = STEPS[word]
        step(story, *things)
        # Of all that stands in a deed only verbs are a list.
        story.rows = (*self.rows, tuple([tuple(thing) if is_list(thing) else thing for thing in deed]))
        return story

    def facts(self):
        """The Facts that were told, in their order."""
        return self.seen

    def deeds(self):
        """The list of the deeds that were done, as tuples."""
        return list(self.rows)

    def links(self):
        """The list of the names of the links that stand, in the order in which they were made."""
        return list(self.standing)

    def link(self, name):
        """A link that stands: its person and folder, what it lets up to which day, from which link it was made."""
        must_stand(self, name)
        first, *others = chain(self.standing, name)
        verbs = [verb for verb in sorted(first.verbs) if all([verb in other.verbs for other in others])]
        lasts = [one.last for one in (first, *others) if one.last is not None]
        return (first.person, first.folder, tuple(verbs), min(lasts, default=None), first.maker)

    def place(self, thing):
        """The folder to which a thing was moved last, or the thing itself."""
        must_be_thing(self.house, thing)
        return self.where.get(thing, thing)

    def __eq__(self, other):
        return isinstance(other, Story) and self.house == other.house and self.rows == other.rows
