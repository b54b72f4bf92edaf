"""Stops: which links must go so that somebody surely cannot, though others surely can."""

from whatopened.errors import BadWish
from whatopened.kinds import fewest, is_integer, is_list, is_name
from whatopened.rights import can
from whatopened.stories import made_from, must_stand


def is_wish(house, thing):
    """Whether any object is a wish: a person, a verb, a thing of the house and a day."""
    if not is_list(thing) or len(thing) != 4:
        return False
    person, verb, wanted, day = thing
    return is_name(person) and is_name(verb) and wanted in house.things and is_integer(day)


def wrong_wish(house, wish, kept):
    """The index for BadWish, or None if wish is one and kept a list of some."""
    if not is_wish(house, wish):
        return 0
    if not is_list(kept):
        return 1
    for at, thing in enumerate(kept, 1):
        if not is_wish(house, thing):
            return at
    return None


def lost(story, names):
    """The links that stand no more if all links of a list are withdrawn."""
    for name in names:
        must_stand(story, name)
    return made_from(story, names)


def withdrawn(story, names):
    """The story behind the withdrawal of the links of a list."""
    behind = story
    for name in names:
        # It may be gone with one from which it was made.
        if name in behind.links():
            behind = behind.done(("withdraw", name))
    return behind


def is_stopped(story, wish, kept):
    """Whether a wish is never, and each wish of a list is sure."""
    return can(story, *wish) == "never" and all([can(story, *one) == "sure" for one in kept])


def stops(story, wish, kept):
    """All tuples of as few links as possible behind whose withdrawal a wish is never, and those kept are sure."""
    at = wrong_wish(story.house, wish, kept)
    if at is not None:
        raise BadWish(at)
    return fewest(story.links(), lambda names: is_stopped(withdrawn(story, names), wish, kept))
