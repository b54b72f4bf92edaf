"""Asking: what is sure in all trees that fit facts, what is never so, what is open, and what shows it."""

from whatopened.errors import BadFact, BadPair, UnlikeHouses
from whatopened.facts import against, is_fact, wrong_fact
from whatopened.fitting import must_fit, topless, tree_for
from whatopened.kinds import is_list

TABLE_WORDS = {"sure": "below", "never": "not", "open": "open"}


def sides(facts, rows):
    """What is told if one of the rows, which are facts, holds, a Facts for each, and what if none of them does."""
    nots = [one for row in rows for one in against(facts.house, row)]
    return ([facts + [row] for row in rows], facts + nots)


def decided(some, none):
    """The verdict, some and none being what sides told; a tree must fit one of all these."""
    if topless(none) is not None:
        return "sure"
    if all([topless(facts) is not None for facts in some]):
        return "never"
    return "open"


def two_trees(some, none):
    """The paper of what is open: a tree that fits one of some, and one that fits none."""
    trees = [tree_for(facts) for facts in some]
    return ([tree for tree in trees if tree is not None][0], tree_for(none))


def sides_of_fact(facts, fact):
    """The sides for a single fact; BadFact, then Unfit."""
    if not is_fact(facts.house, fact):
        raise BadFact(0)
    must_fit(facts)
    return sides(facts, [fact])


def belows(house, pairs):
    """The facts that pairs ask for: of each one that its node lies below its folder; BadPair."""
    if not is_list(pairs):
        raise BadPair(0)
    rows = [("below", *pair) if is_list(pair) else None for pair in pairs]
    at = wrong_fact(house, rows)
    if at is not None:
        raise BadPair(at)
    return rows


def sides_of_pairs(facts, pairs):
    """The sides for the belows of pairs; BadPair, then Unfit."""
    rows = belows(facts.house, pairs)
    must_fit(facts)
    return sides(facts, rows)


def verdict(facts, fact):
    """Whether a fact is sure, never so or open."""
    some, none = sides_of_fact(facts, fact)
    return decided(some, none)


def paper(facts, fact):
    """What shows the verdict on a fact: a topless group, or two trees."""
    some, none = sides_of_fact(facts, fact)
    word = decided(some, none)
    if word == "open":
        return two_trees(some, none)
    return topless(none) if word == "sure" else topless(some[0])


def one_of(facts, pairs):
    """The verdict that for at least one of the pairs the node lies below the folder."""
    some, none = sides_of_pairs(facts, pairs)
    return decided(some, none)


def one_paper(facts, pairs):
    """What shows the verdict on pairs: a topless group, a list of them, or two trees."""
    some, none = sides_of_pairs(facts, pairs)
    word = decided(some, none)
    if word == "open":
        return two_trees(some, none)
    return topless(none) if word == "sure" else [topless(one) for one in some]


def table(facts):
    """The dict from all pairs of a node and another node, a folder, to what is told of them."""
    must_fit(facts)
    words = {}
    for node in facts.house.nodes:
        for folder in facts.house.folders:
            if node != folder:
                some, none = sides(facts, [("below", node, folder)])
                words[(node, folder)] = TABLE_WORDS[decided(some, none)]
    return words


def alone(facts):
    """Whether just one tree fits."""
    # A tree is told by what lies below what: two that fit differ in a pair, which is open then.
    words = table(facts)
    return "open" not in list(words.values())


def parted(facts, more):
    """None, or a tree that fits facts, and the first index in more of a fact that such a tree does not keep."""
    if facts.house != more.house:
        raise UnlikeHouses()
    for at, fact in enumerate(more.told()):
        tree = tree_for(facts + against(facts.house, fact))
        if tree is not None:
            return (tree, at)
    return None


def follows(facts, more):
    """Whether each tree that fits facts fits more."""
    return parted(facts, more) is None


def alike(one, other):
    """Whether just the same trees fit both."""
    return follows(one, other) and follows(other, one)
