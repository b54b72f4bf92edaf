"""The interface as the document lists it: where each name is defined, its parameters, its methods, its example."""

from whatopened.desks import Desk
from whatopened.facts import Facts
from whatopened.houses import House
from whatopened.stories import Story
from whatopened.trees import Tree

METHODS = {
    House: {"__init__": ("folders", "things"), "__contains__": None, "__len__": None, "__iter__": None, "__eq__": None},
    Tree: {
        "__init__": ("house", "over"), "over": ("node",), "above": ("node",), "below": ("folder",),
        "lies": ("node", "folder"), "moved": ("node", "folder"), "holds": ("fact",), "keeps": ("facts",),
        "__eq__": None,
    },
    Facts: {
        "__init__": ("house", "facts"), "told": (), "without": ("indexes",), "__add__": None, "__len__": None,
        "__contains__": None, "__iter__": None, "__eq__": None,
    },
    Story: {
        "__init__": ("house",), "done": ("deed",), "facts": (), "deeds": (), "links": (), "link": ("name",),
        "place": ("thing",), "__eq__": None,
    },
    Desk: {
        "__init__": ("story",), "story": (), "watch": ("name", "wish"), "unwatch": ("name",), "state": ("name",),
        "names": (), "do": ("deed",), "undo": (), "again": (), "would": ("deeds",),
    },
}
PLACES = {
    House: "whatopened.houses", Tree: "whatopened.trees", Facts: "whatopened.facts", Story: "whatopened.stories",
    Desk: "whatopened.desks",
}
FUNCTIONS = {
    "whatopened.facts": {"against": ("house", "fact")},
    "whatopened.fitting": {"tree_for": ("facts",), "topless": ("facts",), "is_topless": ("facts", "nodes")},
    "whatopened.asking": {
        "verdict": ("facts", "fact"), "paper": ("facts", "fact"), "one_of": ("facts", "pairs"),
        "one_paper": ("facts", "pairs"), "table": ("facts",), "alone": ("facts",), "follows": ("facts", "more"),
        "parted": ("facts", "more"), "alike": ("one", "other"),
    },
    "whatopened.counts": {"how_many": ("facts",), "tree_number": ("facts", "k"), "number_of": ("facts", "tree")},
    "whatopened.quarrels": {"needless": ("facts",), "quarrels": ("facts",), "fewest_back": ("facts",)},
    "whatopened.trials": {
        "settles": ("facts", "fact", "pair"), "fewest_asked": ("facts", "fact", "pairs"),
        "plan": ("facts", "fact", "pairs"), "is_plan": ("facts", "fact", "pairs", "thing"),
    },
    "whatopened.wishes": {
        "places": ("facts", "wanted", "barred"), "covers": ("facts", "wanted", "barred"),
        "as_much": ("facts", "some", "others"),
    },
    "whatopened.rights": {
        "can": ("story", "person", "verb", "thing", "day"), "why_can": ("story", "person", "verb", "thing", "day"),
        "who": ("story", "verb", "thing", "day"), "copied": ("story", "name", "thing"),
        "unlike": ("story", "name", "thing"),
    },
    "whatopened.moves": {"gains": ("story", "thing", "folder", "day"), "harmless": ("story", "day")},
    "whatopened.stops": {"lost": ("story", "names"), "stops": ("story", "wish", "kept")},
    "whatopened.texts": {"written": ("facts",), "read": ("text",)},
}
EXAMPLE = """
>>> from whatopened.houses import House
>>> from whatopened.facts import Facts
>>> from whatopened.asking import one_of, verdict
>>> house = House(["a", "b", "c"], ["t", "u", "v", "w"])
>>> facts = Facts(house, [("below", "t", "c"), ("below", "w", "c"), ("below", "w", "b"), ("below", "v", "b"), ("below", "v", "a"), ("below", "u", "a"), ("not", "u", "c")])
>>> [verdict(facts, ("below", "t", "a")), verdict(facts, ("below", "t", "b")), one_of(facts, [("t", "a"), ("t", "b")])]
['open', 'open', 'sure']
"""
