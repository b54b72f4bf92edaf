"""Wishes: below which folders some nodes surely lie, and others surely do not."""

from whatopened.asking import sides
from whatopened.fitting import must_fit, topless
from whatopened.houses import must_be_folder, must_be_node
from whatopened.kinds import fewest


def is_below(facts, node, folders):
    """Whether, in each tree that fits, a node lies below one of the folders, not always the same; a tree must fit."""
    some, none = sides(facts, [("below", node, folder) for folder in folders if folder != node])
    return topless(none) is not None


def is_free(facts, nodes, folder):
    """Whether, in each tree that fits, none of the nodes lies below a folder."""
    others = [node for node in nodes if node != folder]
    return all([topless(facts + [("below", node, folder)]) is not None for node in others])


def free_folders(facts, wanted, barred):
    """The folders below which no barred node can lie; NoNode, then Unfit."""
    for thing in (*wanted, *barred):
        must_be_node(facts.house, thing)
    must_fit(facts)
    return [folder for folder in facts.house.folders if is_free(facts, barred, folder)]


def are_covered(facts, nodes, folders):
    """Whether each of the nodes surely lies below at least one of the folders."""
    return all([is_below(facts, node, folders) for node in nodes])


def places(facts, wanted, barred):
    """The folders below which each wanted node surely lies, and each barred one surely does not."""
    return [folder for folder in free_folders(facts, wanted, barred) if are_covered(facts, wanted, [folder])]


def covers(facts, wanted, barred):
    """All tuples of as few folders as possible such that each wanted node surely lies below one, no barred one does."""
    free = free_folders(facts, wanted, barred)
    return fewest(free, lambda folders: are_covered(facts, wanted, folders))


def as_much(facts, some, others):
    """Whether, in each tree that fits, each folder of some is one of others or lies below one of them."""
    for thing in (*some, *others):
        must_be_folder(facts.house, thing)
    must_fit(facts)
    return all([folder in others or is_below(facts, folder, others) for folder in some])
