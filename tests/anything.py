"""Objects of every kind that the tests pass where any object may be passed, and all trees of a small house."""

from itertools import product

from whatopened.desks import Desk
from whatopened.errors import BadHouse, UnlikeHouses
from whatopened.facts import Facts
from whatopened.houses import House
from whatopened.stories import Story
from whatopened.trees import Tree

ODD_STRINGS = ("", "A", "aB", "a1", "a b", "a_", "abcdefghi", "z" * 400, " a", "a\n", "~", "\t")


def package_objects():
    """Objects of the package that no test's house has as a node."""
    house = House(["q"])
    return [house, Tree(house, {}), Facts(house), Story(house), Desk(Story(house)), BadHouse(1), UnlikeHouses()]


def any_objects():
    """Objects of every kind, none of them a name, a list of names or a fact."""
    plain = [0, 1, -1, 999999999, True, False, None, [], (), {}, [[]], [None], ((),), {"a": "a"}, {1: [2]}, [["a"]]]
    return plain + list(ODD_STRINGS) + package_objects()


def any_keys():
    """Those of any_objects() that can be keys of a dict."""
    kinds = (list, dict, House, Tree, Facts, Story)
    return [thing for thing in any_objects() if not isinstance(thing, kinds)] + [("a",), ((), 1)]


def no_lists():
    """Those of any_objects() that are neither lists nor tuples."""
    return [thing for thing in any_objects() if not isinstance(thing, (list, tuple))]


def no_facts(house):
    """Objects that are no facts about a house with folders a, b, c and things t, u, without a node x."""
    wrong = [
        *any_objects(), ("below",), ("below", "t"), ("below", "t", "a", "b"), ("over", "t", "a"), ("t", "below", "a"),
        ("below", "t", "u"), ("not", "a", "t"), ("below", "a", "a"), ("not", "a", "a"), ("line", "a", "a"),
        ("line", "t", "t"), ("below", "x", "a"), ("not", "t", "x"), ("line", "t", "x"), ("line", "x", "t"),
        ("Below", "t", "a"), ("t", "a"), "below t a", {"below": 1, "t": 2, "a": 3}, [("below", "t", "a")],
        Facts(house, [("below", "t", "a"), ("below", "t", "b"), ("below", "t", "c")]), House(["below", "t", "a"]),
    ]
    for thing in any_objects():
        wrong += [(thing, "t", "a"), ("below", thing, "a"), ["not", "t", thing], ("line", thing, "t")]
    return wrong


def no_wishes(house):
    """Objects that are no wishes in a story of a house with folders a, b, c and things t, u, without a node x."""
    good = ("bob", "read", "t", 3)
    wrong = [
        *any_objects(), good[:3], (*good, None), good[::-1], ("bob", "read", "a", 3), ("bob", "read", "x", 3),
        ("Bob", "read", "t", 3), ("bob", "", "t", 3), ("bob", "read", "t", None), ("bob", "read", "t", True),
        ("bob", "read", "t", "3"), "bobr", {"bob": 1, "read": 2, "t": 3, "x": 4}, House(["bob", "read", "t", "x"]), [good],
        ("bob", ("read",), "t", 3), Facts(house, [("below", "t", folder) for folder in "abc"] + [("line", "a", "b")]),
    ]
    for thing in any_objects():
        wrong += [(thing, *good[1:]), ["bob", thing, "t", 3], ("bob", "read", thing, 3)]
        if isinstance(thing, bool) or not isinstance(thing, int):
            wrong.append((*good[:3], thing))
    return wrong


def has_ring(over, node):
    """Whether the way up from a node never comes to the very top."""
    for step in range(len(over) + 1):
        if over[node] is None:
            return False
        node = over[node]
    return True


def way_up(over, node):
    """The folders above a node, followed step by step in a dict."""
    folders = []
    while over[node] is not None:
        node = over[node]
        folders.append(node)
    return folders


def all_overs(house):
    """All dicts from nodes to the folders directly over them, None at the very top, without rings."""
    folders = [None, *house.folders]
    dicts = [dict(zip(house.nodes, row)) for row in product(folders, repeat=len(house.nodes))]
    return [over for over in dicts if not any(has_ring(over, node) for node in house.nodes)]


def without_tops(over):
    """The dict as Tree expects it: what lies at the very top is no key."""
    return {node: over[node] for node in over if over[node] is not None}


def all_trees(house):
    """All trees of a house."""
    return [Tree(house, without_tops(over)) for over in all_overs(house)]


def holds_in(over, fact):
    """Whether a fact holds in the tree of a dict."""
    word, one, other = fact
    down, up = other in way_up(over, one), one in way_up(over, other)
    return {"below": down, "not": not down, "line": down or up}[word]


def all_facts(house):
    """All facts about a house, a line each way round."""
    pairs = [(one, other) for one in house.nodes for other in house.nodes if one != other]
    lines = [("line", one, other) for one, other in pairs]
    plain = [(word, one, other) for word in ("below", "not") for one, other in pairs if other in house.folders]
    return plain + lines
