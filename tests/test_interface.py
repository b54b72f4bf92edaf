"""The interface: where each name is defined, its parameters, and its methods."""

import inspect
import unittest
from importlib import import_module

from whatopened.facts import Facts, against
from whatopened.houses import House
from whatopened.trees import Tree

METHODS = {
    House: {"__init__": ("folders", "things"), "__contains__": None, "__len__": None, "__iter__": None, "__eq__": None},
    Tree: {
        "__init__": ("house", "over"), "over": ("node",), "above": ("node",), "below": ("folder",),
        "lies": ("node", "folder"), "moved": ("node", "folder"), "holds": ("fact",), "keeps": ("facts",),
        "__eq__": None,
    },
    Facts: {
        "__init__": ("house", "facts"), "told": (), "without": ("indexes",), "__add__": None, "__len__": None,
        "__contains__": None, "__iter__": None, "__eq__": None,
    },
}
PLACES = {House: "whatopened.houses", Tree: "whatopened.trees", Facts: "whatopened.facts", against: "whatopened.facts"}


class TheInterface(unittest.TestCase):
    def test_each_name_is_defined_in_its_own_file(self):
        for thing, place in PLACES.items():
            self.assertEqual(thing.__module__, place)
            self.assertIs(getattr(import_module(place), thing.__name__), thing)

    def test_each_method_stands_in_the_class_itself(self):
        for kind, methods in METHODS.items():
            for name, parameters in methods.items():
                self.assertIn(name, vars(kind))
                if parameters is not None:
                    found = tuple(inspect.signature(vars(kind)[name]).parameters)
                    self.assertEqual(found, ("self", *parameters))

    def test_parameters_with_a_default(self):
        self.assertEqual(inspect.signature(House).parameters["things"].default, ())
        self.assertEqual(inspect.signature(Facts).parameters["facts"].default, ())
        self.assertEqual(tuple(inspect.signature(against).parameters), ("house", "fact"))

    def test_attributes_are_set_when_an_object_is_created(self):
        house = House(["a"], ["t"])
        for thing, names in ((house, ("folders", "things", "nodes")), (Tree(house, {}), ("house",)),
                             (Facts(house), ("house",))):
            for name in names:
                self.assertIn(name, vars(thing))

    def test_houses_and_facts_somewhat_beyond_the_limits(self):
        house = House(list("abcdefgh"), list("stuvwxyz"))
        self.assertEqual(len(house), 16)
        facts = Facts(house, [("below", thing, folder) for thing in house.things for folder in house.folders])
        self.assertEqual(len(facts), 64)
        tree = Tree(house, dict(zip("abcdefgs", "bcdefgha")))
        self.assertEqual(tree.above("s"), tuple("abcdefgh"))
        self.assertIs(tree.keeps(facts), False)


if __name__ == "__main__":
    unittest.main()
