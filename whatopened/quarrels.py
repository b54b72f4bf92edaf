"""Quarrels: which facts could be left out, and which must be taken back so that some tree fits."""

from whatopened.asking import follows
from whatopened.facts import Facts
from whatopened.fitting import must_fit, topless
from whatopened.kinds import choices, fewest


def needless(facts):
    """The indexes of the facts each of which, alone, could be left out: the same trees fit."""
    must_fit(facts)
    house = facts.house
    return [at for at, fact in enumerate(facts.told()) if follows(facts.without([at]), Facts(house, [fact]))]


def fits_only(facts, indexes):
    """Whether some tree keeps the facts with these indexes, whatever the others are."""
    told = facts.told()
    return topless(Facts(facts.house, [told[at] for at in indexes])) is None


def is_within(some, others):
    """Whether each thing of some is in others."""
    return all([thing in others for thing in some])


def quarrels(facts):
    """All tuples of indexes of facts that no tree keeps together, though some tree keeps all but any one of them."""
    found = []
    # Where some tree keeps all facts it keeps any of them: nothing need be looked through.
    sizes = [] if topless(facts) is None else list(range(1, len(facts) + 1))
    for many in sizes:
        for indexes in choices(len(facts), many):
            # Shorter ones are found first, so what contains none of them quarrels only as a whole.
            if not any([is_within(one, indexes) for one in found]) and not fits_only(facts, indexes):
                found.append(indexes)
    return found


def fewest_back(facts):
    """All tuples of as few indexes as possible without whose facts some tree fits."""
    return fewest(list(range(len(facts))), lambda indexes: topless(facts.without(indexes)) is None)
