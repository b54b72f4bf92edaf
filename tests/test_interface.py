"""The interface: where each name is defined, its parameters, and its methods."""

import doctest
import inspect
import unittest
from importlib import import_module

from interface import EXAMPLE, FUNCTIONS, METHODS, PLACES
from whatopened.facts import Facts
from whatopened.houses import House
from whatopened.stories import Story
from whatopened.trees import Tree


class TheInterface(unittest.TestCase):
    def test_each_name_is_defined_in_its_own_file(self):
        for thing, place in PLACES.items():
            self.assertEqual(thing.__module__, place)
            self.assertIs(getattr(import_module(place), thing.__name__), thing)

    def test_each_function_is_defined_in_its_own_file(self):
        for place, functions in FUNCTIONS.items():
            for name, parameters in functions.items():
                function = getattr(import_module(place), name)
                self.assertTrue(inspect.isfunction(function), name)
                self.assertEqual(function.__module__, place)
                self.assertEqual(tuple(inspect.signature(function).parameters), parameters)
                for parameter in inspect.signature(function).parameters.values():
                    self.assertIs(parameter.default, parameter.empty)

    def test_the_example_at_its_end(self):
        test = doctest.DocTestParser().get_doctest(EXAMPLE, {}, "the interface", None, 0)
        found = doctest.DocTestRunner().run(test)
        self.assertEqual((found.attempted, found.failed), (6, 0))

    def test_each_method_stands_in_the_class_itself(self):
        for kind, methods in METHODS.items():
            for name, parameters in methods.items():
                self.assertIn(name, vars(kind))
                if parameters is not None:
                    found = tuple(inspect.signature(vars(kind)[name]).parameters)
                    self.assertEqual(found, ("self", *parameters))

    def test_parameters_with_a_default(self):
        self.assertEqual(inspect.signature(House).parameters["things"].default, ())
        self.assertEqual(inspect.signature(Facts).parameters["facts"].default, ())

    def test_attributes_are_set_when_an_object_is_created(self):
        house = House(["a"], ["t"])
        for thing, names in ((house, ("folders", "things", "nodes")), (Tree(house, {}), ("house",)),
                             (Facts(house), ("house",)), (Story(house), ("house",))):
            for name in names:
                self.assertIn(name, vars(thing))

    def test_houses_and_facts_somewhat_beyond_the_limits(self):
        house = House(list("abcdefgh"), list("stuvwxyz"))
        self.assertEqual(len(house), 16)
        facts = Facts(house, [("below", thing, folder) for thing in house.things for folder in house.folders])
        self.assertEqual(len(facts), 64)
        tree = Tree(house, dict(zip("abcdefgs", "bcdefgha")))
        self.assertEqual(tree.above("s"), tuple("abcdefgh"))
        self.assertIs(tree.keeps(facts), False)


if __name__ == "__main__":
    unittest.main()
