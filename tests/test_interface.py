"""Each name of the interface stands in its file, each method in its class, as told."""

import importlib
import inspect
import unittest

VALUES = {
    "times": {"WHOLE": (1, 1)},
    "clocks": {"DRIFT": (1, 100)},
    "copies": {"LEASE": 20},
}
FUNCTIONS = {
    "times": {
        "is_whole": "(thing)", "is_share": "(thing)", "is_drift": "(thing)",
        "is_stamp": "(thing)", "least_passed": "(ticks, drift)", "most_passed": "(ticks, drift)",
    },
    "shelves": {"is_key": "(thing)", "is_worth": "(thing)"},
    "ledgers": {"first_house": "(key, houses)"},
    "snapshots": {"read_at": "(world, time, keys, *, copy=None)", "read_now": "(world, house, keys)"},
    "moving": {"move": "(world, key, to)", "form_ahead": "(world, time, fields)"},
    "settling": {"settle": "(world)"},
    "histories": {"is_ordered": "(thing)", "order_of": "(thing)"},
    "shortened": {"hurried": "(share)"},
    "deedtexts": {"shown_deed": "(deed)", "read_deed": "(text)"},
}
CLASSES = {
    "clocks": {"Clock": {
        "__init__": "(self, drift=(1, 100))", "drift": "(self)", "is_set": "(self)",
        "set_to": "(self, low, high)", "tick": "(self, many=1)", "bounds": "(self)",
        "is_past": "(self, time)", "is_ahead": "(self, time)", "twin": "(self)",
        "__eq__": "(self, other)",
    }},
    "shelves": {"Shelf": {
        "__init__": "(self)", "put": "(self, key, stamp, worth)", "let_go": "(self, time)",
        "versions": "(self, key)", "all_keys": "(self)", "newest": "(self, key)",
        "at": "(self, key, time)", "twin": "(self)", "__len__": "(self)",
    }},
    "holds": {"Holds": {
        "__init__": "(self)", "ask": "(self, dealing, key, mode, *, age=None)", "pledge": "(self, dealing)",
        "keep": "(self, dealing, some)", "free": "(self, dealing, *, forget=False)", "of": "(self, dealing)",
        "waiting": "(self)", "called_off": "(self)", "pledged": "(self)", "twin": "(self)",
    }},
    "copies": {"Copies": {
        "__init__": "(self, many=3, *, drift=(1, 100), lease=20)", "set_clock": "(self, copy, low, high)",
        "tick_clock": "(self, copy, many=1)", "stop": "(self, copy)", "back": "(self, copy)", "renew": "(self)",
        "catch_up": "(self, copy)", "write": "(self, entry)", "choose": "(self, copy)", "clock": "(self, copy)",
        "is_up": "(self, copy)", "reign": "(self)", "heads": "(self)", "head": "(self)",
        "book": "(self, copy=None)", "twin": "(self)", "__len__": "(self)",
    }},
    "ledgers": {"Ledger": {
        "__init__": "(self, house, houses=1)", "note": "(self, entry)", "word": "(self, dealing)",
        "pledge_of": "(self, dealing)", "stamp_of": "(self, dealing)", "low_of": "(self, dealing)",
        "pending": "(self)", "last_stamp": "(self)", "last_serial": "(self)", "last_mark": "(self)",
        "shelf": "(self)", "house_of": "(self, key)", "house_at": "(self, key, time)",
        "fields_at": "(self, time)", "worth_at": "(self, key, time)", "safe": "(self)", "twin": "(self)",
    }},
    "houses": {"House": {
        "__init__": "(self, number, houses=1, *, copies=3, drift=(1, 100), lease=20, wait=(1, 1))",
        "number": "(self)", "floor": "(self)", "reign": "(self)", "head": "(self)", "bounds": "(self)",
        "copies": "(self)", "ledger": "(self)", "holds": "(self)", "set_clock": "(self, copy, low, high)",
        "tick_clock": "(self, copy, many=1)", "stop": "(self, copy)", "back": "(self, copy)", "renew": "(self)",
        "catch_up": "(self, copy)", "choose": "(self, copy)",
        "hold": "(self, dealing, key, mode, *, reign, age=None, coming=False)", "newest": "(self, dealing, key)",
        "drop": "(self, dealing)", "receive": "(self, thing)", "tell": "(self, dealing)",
        "give_up": "(self, dealing)", "questions": "(self)", "read": "(self, key, time, *, copy=None)",
        "look": "(self, key, time, *, copy=None)", "mark": "(self)", "let_go": "(self, time)",
        "rise": "(self, time, *, copy=None)", "twin": "(self)",
    }},
    "world": {"World": {
        "__init__": "(self, houses, *, copies=3, drift=(1, 100), lease=20, wait=(1, 1))",
        "true_now": "(self)", "told_wait": "(self)", "tick": "(self, many=1)",
        "set_clock": "(self, house, copy, *, before=0, behind=0)", "pace": "(self, house, copy, pace)",
        "stop": "(self, house, copy)", "back": "(self, house, copy)", "renew": "(self, house)",
        "catch_up": "(self, house, copy)", "let_go": "(self, house, time)", "choose": "(self, house, copy)",
        "mark": "(self, house)", "question": "(self, house)", "seen_house": "(self, house)", "begin": "(self)",
        "again": "(self, dealing)", "age_of": "(self, dealing)", "word": "(self, dealing)",
        "take": "(self, dealing, key, mode)", "read": "(self, dealing, key)", "write": "(self, dealing, key, worth)",
        "finish": "(self, dealing)", "give_up": "(self, dealing)", "lose": "(self, number)",
        "tell": "(self, dealing)", "letters": "(self)", "deliver": "(self, number)", "waiting": "(self)",
        "history": "(self)", "book": "(self)", "play": "(self, deeds)", "twin": "(self)", "__len__": "(self)",
        "houses": "(self)", "house_with": "(self, key)", "look": "(self, house, key, time, *, copy=None)",
        "rise": "(self, house, time, *, copy=None)", "keep_read": "(self, word, time, key, worth)",
        "begin_more": "(self, more)", "take_at": "(self, dealing, house, key, mode, *, coming=False)",
        "read_in_house": "(self, dealing, house, key)", "put_in_house": "(self, dealing, house, key, worth)",
        "put_off": "(self, dealing)",
    }},
    "desk": {"Desk": {"__init__": "(self)", "say": "(self, row)", "__len__": "(self)"}},
}


def module(name):
    return importlib.import_module("stampedwait." + name)


class Interface(unittest.TestCase):
    def test_values(self):
        for file, values in VALUES.items():
            for name, value in values.items():
                self.assertEqual(getattr(module(file), name), value)

    def test_functions(self):
        for file, functions in FUNCTIONS.items():
            for name, told in functions.items():
                function = getattr(module(file), name)
                self.assertEqual(function.__module__, "stampedwait." + file)
                self.assertEqual(str(inspect.signature(function)), told, name)

    def test_classes(self):
        for file, classes in CLASSES.items():
            for name, methods in classes.items():
                kind = getattr(module(file), name)
                self.assertEqual(kind.__module__, "stampedwait." + file)
                for method, told in methods.items():
                    self.assertIn(method, vars(kind), name)
                    self.assertEqual(str(inspect.signature(vars(kind)[method])), told, method)


if __name__ == "__main__":
    unittest.main()
