"""The interface: each name in its own file, with its parameters, and each method in its class itself."""

import importlib
import inspect
import unittest

from fewfetches.boxes import points_of
from fewfetches.formulas import all_points
from fewfetches.kinds import walked
from fewfetches.stores import Store
from tests.interface import CLASSES, FUNCTIONS, METHODS, PROPERTIES


def home(module):
    return importlib.import_module("fewfetches." + module)


def parameters(thing):
    """The parameters as a text, each with its default value."""
    return str(inspect.signature(thing))


class TestInterface(unittest.TestCase):
    def test_functions_are_defined_in_their_files(self):
        for (module, name), told in FUNCTIONS.items():
            function = getattr(home(module), name)
            self.assertTrue(inspect.isfunction(function), name)
            self.assertEqual(function.__module__, "fewfetches." + module)
            self.assertEqual(function.__name__, name)
            self.assertEqual(parameters(function), told, name)

    def test_classes_are_defined_in_their_files(self):
        for module, name in CLASSES:
            made = getattr(home(module), name)
            self.assertTrue(inspect.isclass(made), name)
            self.assertEqual(made.__module__, "fewfetches." + module)

    def test_methods_stand_in_the_class_itself(self):
        for (module, name, method), told in METHODS.items():
            held = vars(getattr(home(module), name))
            self.assertIn(method, held, name)
            if method in ("of_told",):
                self.assertIsInstance(held[method], classmethod)
                self.assertEqual(parameters(held[method].__func__), told, (name, method))
            else:
                self.assertEqual(parameters(held[method]), told, (name, method))

    def test_properties_stand_in_the_class_itself(self):
        for module, name, attribute in PROPERTIES:
            self.assertIsInstance(vars(getattr(home(module), name))[attribute], property, (name, attribute))

    def test_generators(self):
        for function in (points_of, all_points, walked, Store.each_entry):
            self.assertTrue(inspect.isgeneratorfunction(function))


if __name__ == "__main__":
    unittest.main()
