"""The errors: [4] and the list of classes in the interface."""

import inspect
import unittest

from anything import any_objects
from whatopened import errors

PARAMETERS = {
    "BadHouse": "index", "NoNode": "node", "NoFolder": "folder", "NoThing": "thing", "Ringed": "folders",
    "BadFact": "index", "BadIndex": "thing", "UnlikeHouses": None, "Unfit": "nodes", "BadPair": "index",
    "NoSuch": "number", "Misfit": None, "BadName": "name", "Taken": "name", "NoLink": "name", "BadVerbs": "verbs",
    "BadDay": "day", "BadAnswer": "answer", "Wider": "name", "NotLet": "name", "Quarrel": "nodes",
    "BadDeed": "deed", "BadWish": "index", "Held": "name", "NotHeld": "name", "NoDeed": None, "BadText": "line",
}


class TheClasses(unittest.TestCase):
    def test_all_of_them_are_defined_here_and_no_others(self):
        found = [name for name, thing in vars(errors).items() if inspect.isclass(thing)]
        self.assertEqual(sorted(found), sorted([*PARAMETERS, "HouseError"]))
        for name in found:
            self.assertEqual(getattr(errors, name).__module__, "whatopened.errors")

    def test_house_error_is_directly_under_value_error(self):
        self.assertEqual(errors.HouseError.__bases__, (ValueError,))

    def test_all_others_are_directly_under_house_error(self):
        for name in PARAMETERS:
            self.assertEqual(getattr(errors, name).__bases__, (errors.HouseError,), name)

    def test_none_of_them_catches_another(self):
        for name in PARAMETERS:
            for other in PARAMETERS:
                if name != other:
                    self.assertFalse(issubclass(getattr(errors, name), getattr(errors, other)))


class WhatTheyKeep(unittest.TestCase):
    def made(self, name, thing):
        """The error of this name, made by position and by name."""
        kind = getattr(errors, name)
        return [kind(thing), kind(**{PARAMETERS[name]: thing})]

    def test_each_keeps_any_object_under_the_listed_name(self):
        for name, parameter in PARAMETERS.items():
            if parameter is None:
                continue
            for thing in any_objects():
                for error in self.made(name, thing):
                    kept = getattr(error, parameter)
                    self.assertIs(type(kept), type(thing))
                    self.assertTrue(kept is thing or kept == thing)

    def test_true_is_kept_as_true_and_one_as_one(self):
        self.assertIs(errors.BadDay(True).day, True)
        self.assertIs(errors.BadDay(1).day, 1)

    def test_those_without_parameters_are_made_of_nothing(self):
        for name in ("UnlikeHouses", "Misfit", "NoDeed"):
            self.assertIsInstance(getattr(errors, name)(), errors.HouseError)

    def test_house_error_can_be_made_with_any_objects(self):
        for thing in any_objects():
            self.assertIsInstance(errors.HouseError(thing), ValueError)

    def test_they_can_be_raised_and_caught_as_house_errors(self):
        for name, parameter in PARAMETERS.items():
            kind = getattr(errors, name)
            with self.assertRaises(errors.HouseError):
                raise kind() if parameter is None else kind(["a"])


if __name__ == "__main__":
    unittest.main()
