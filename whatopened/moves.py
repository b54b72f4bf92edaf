"""Moves: who surely, perhaps or never can more as soon as a thing is moved."""

from whatopened.houses import must_be_folder, must_be_thing
from whatopened.rights import may_be, word_for
from whatopened.stories import lets, must_be_day


def folders_held(story, day):
    """The dict from all pairs (person, verb), ascending, to the folders of the links that let it, in their order.

    Only pairs stand there such that the person holds a link that lets the verb on the day.
    """
    folders = {}
    for name in story.links():
        person, folder, verbs, last, maker = story.link(name)
        for verb in verbs:
            if lets(story, name, verb, day):
                folders.setdefault((person, verb), []).append(folder)
    every = story.house.folders
    return {pair: tuple([folder for folder in every if folder in folders[pair]]) for pair in sorted(folders)}


def may_gain(facts, place, folder, held):
    """Whether in some tree that fits a place is in none of the held folders, and the folder to move to is in one."""
    outside = [(place, one, False) for one in held]
    return any([may_be(facts, [*outside, (folder, one, True)]) for one in held])


def may_not_gain(facts, place, folder, held):
    """Whether in some tree that fits a place is in one of the held folders, or the folder to move to is in none."""
    inside = any([may_be(facts, [(place, one, True)]) for one in held])
    return inside or may_be(facts, [(folder, one, False) for one in held])


def gains(story, thing, folder, day):
    """The dict from all pairs (person, verb) to the verdicts that the person gains the verb by a move of a thing."""
    must_be_thing(story.house, thing)
    must_be_folder(story.house, folder)
    must_be_day(day)
    facts, place = story.facts(), story.place(thing)
    words = {}
    for pair, held in folders_held(story, day).items():
        words[pair] = word_for(may_gain(facts, place, folder, held), may_not_gain(facts, place, folder, held))
    return words


def is_harmless(story, thing, folder, groups):
    """Whether nobody gains by a move of a thing, groups having the folders of all who could."""
    return not any([may_gain(story.facts(), story.place(thing), folder, held) for held in groups])


def harmless(story, day):
    """The pairs (thing, folder) such that nobody gains by this move, whatever the tree is."""
    must_be_day(day)
    # Most pairs of a person and a verb have the same folders as others.
    groups = sorted(set(list(folders_held(story, day).values())))
    pairs = [(thing, folder) for thing in story.house.things for folder in story.house.folders]
    return [(thing, folder) for thing, folder in pairs if is_harmless(story, thing, folder, groups)]
