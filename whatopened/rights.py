"""Rights: who surely can do what with a thing, who surely cannot, and what copies keep."""

from whatopened.asking import sides, two_trees
from whatopened.fitting import topless
from whatopened.houses import must_be_thing
from whatopened.stories import lets, must_be_day, must_be_name, must_stand


def may_be(facts, rows):
    """Whether in some tree that fits all of the rows are so.

    A row is (place, folder, answer): by the answer the place is this folder or lies below it, or neither.
    """
    if any([place == folder and not answer for place, folder, answer in rows]):
        return False
    told = [("below" if answer else "not", place, folder) for place, folder, answer in rows if place != folder]
    return topless(facts + told) is None


def word_for(able, unable):
    """The verdict on what some tree allows, or not, and the contrary of which some tree allows, or not."""
    if not unable:
        return "sure"
    return "open" if able else "never"


def lies_in(facts, place, folders):
    """The verdict that a place is one of the folders or lies below one of them."""
    able = any([may_be(facts, [(place, folder, True)]) for folder in folders])
    return word_for(able, may_be(facts, [(place, folder, False) for folder in folders]))


def held(story, person, verb, day):
    """The pairs (name, folder) of the links that stand, which the person holds, and which let the verb on the day."""
    names = [name for name in story.links() if lets(story, name, verb, day)]
    links = [(name, story.link(name)) for name in names]
    return [(name, link[1]) for name, link in links if link[0] == person]


def must_be_tried(story, verb, thing, day):
    """Raises BadName, NoThing, BadDay for any objects of which nobody can be asked."""
    must_be_name(verb)
    must_be_thing(story.house, thing)
    must_be_day(day)


def can(story, person, verb, thing, day):
    """The verdict that a person can do a verb with a thing on a day."""
    must_be_name(person)
    must_be_tried(story, verb, thing, day)
    folders = [folder for name, folder in held(story, person, verb, day)]
    return lies_in(story.facts(), story.place(thing), folders)


def why_can(story, person, verb, thing, day):
    """What shows this verdict: a link at the very place, a topless group, one for each link, or two trees."""
    word = can(story, person, verb, thing, day)
    links = held(story, person, verb, day)
    place = story.place(thing)
    for name, folder in links:
        if folder == place:
            return ("at", name)
    some, none = sides(story.facts(), [("below", place, folder) for name, folder in links])
    if word == "open":
        return two_trees(some, none)
    if word == "sure":
        return ("group", topless(none))
    return [(name, topless(facts)) for (name, folder), facts in zip(links, some)]


def who(story, verb, thing, day):
    """The dict from all persons who hold a link that stands to the verdicts that they can."""
    must_be_tried(story, verb, thing, day)
    persons = [story.link(name)[0] for name in story.links()]
    return {person: can(story, person, verb, thing, day) for person in sorted(set(persons))}


def place_then(story, name, thing):
    """The place of a thing when a link was made."""
    place = thing
    for deed in story.deeds():
        if deed[0] in ("link", "narrow") and deed[1] == name:
            break
        if deed[0] == "move" and deed[1] == thing:
            place = deed[2]
    return place


def kept_where(story, name, thing):
    """The folder of a link, the place of a thing when the link was made, and its place now; NoLink, then NoThing."""
    must_stand(story, name)
    must_be_thing(story.house, thing)
    return (story.link(name)[1], place_then(story, name, thing), story.place(thing))


def copied(story, name, thing):
    """The verdict that a thing is kept by the copy of a link."""
    folder, then, now = kept_where(story, name, thing)
    return lies_in(story.facts(), then, [folder])


def unlike(story, name, thing):
    """The verdict that a thing is kept by the copy of a link or lies below its folder now, but not both."""
    folder, then, now = kept_where(story, name, thing)
    facts = story.facts()
    able = [may_be(facts, [(then, folder, answer), (now, folder, not answer)]) for answer in (True, False)]
    unable = [may_be(facts, [(then, folder, answer), (now, folder, answer)]) for answer in (True, False)]
    return word_for(any(able), any(unable))
