"""Each name of the interface stands in its file, each method in its class, as told."""

import importlib
import inspect
import unittest

VALUES = {
    "times": {"WHOLE": (1, 1)},
    "clocks": {"DRIFT": (1, 100)},
}
FUNCTIONS = {
    "times": {
        "is_whole": "(thing)", "is_share": "(thing)", "is_drift": "(thing)",
        "is_stamp": "(thing)", "least_passed": "(ticks, drift)", "most_passed": "(ticks, drift)",
    },
    "shelves": {"is_key": "(thing)", "is_worth": "(thing)"},
}
CLASSES = {
    "clocks": {"Clock": {
        "__init__": "(self, drift=(1, 100))", "drift": "(self)", "is_set": "(self)",
        "set_to": "(self, low, high)", "tick": "(self, many=1)", "bounds": "(self)",
        "is_past": "(self, time)", "is_ahead": "(self, time)", "twin": "(self)",
        "__eq__": "(self, other)",
    }},
    "shelves": {"Shelf": {
        "__init__": "(self)", "put": "(self, key, stamp, worth)", "let_go": "(self, time)",
        "versions": "(self, key)", "all_keys": "(self)", "newest": "(self, key)",
        "at": "(self, key, time)", "twin": "(self)", "__len__": "(self)",
    }},
}


def module(name):
    return importlib.import_module("stampedwait." + name)


class Interface(unittest.TestCase):
    def test_values(self):
        for file, values in VALUES.items():
            for name, value in values.items():
                self.assertEqual(getattr(module(file), name), value)

    def test_functions(self):
        for file, functions in FUNCTIONS.items():
            for name, told in functions.items():
                function = getattr(module(file), name)
                self.assertEqual(function.__module__, "stampedwait." + file)
                self.assertEqual(str(inspect.signature(function)), told, name)

    def test_classes(self):
        for file, classes in CLASSES.items():
            for name, methods in classes.items():
                kind = getattr(module(file), name)
                self.assertEqual(kind.__module__, "stampedwait." + file)
                for method, told in methods.items():
                    self.assertIn(method, vars(kind), name)
                    self.assertEqual(str(inspect.signature(vars(kind)[method])), told, method)


if __name__ == "__main__":
    unittest.main()
