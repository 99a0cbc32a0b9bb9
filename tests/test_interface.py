import importlib
import inspect
import unittest

FUNCTIONS = {
    "values": {"is_value": ["thing"]},
    "rows": {"row_for": ["hold", "numbers"]},
    "brooms": {"sweep": ["hold", "broom"]},
    "rooms": {
        "is_name": ["thing"], "is_piece": ["thing"], "free_name": ["layout", "hold"], "free_record": ["layout", "hold"],
        "free_piece": ["layout", "hold"],
    },
    "walks": {"walk": ["layout", "plank"], "is_sound": ["layout", "plank"]},
    "mends": {"mend": ["layout", "plank"]},
    "keeping": {"row_to_keep": ["store", "name"], "come_up": ["layout", "plank"]},
}
CLASSES = {
    ("planks", "Plank"): {
        None: ["blocks", "cells"], "read": ["block"], "write": ["block", "values"], "blocks": [], "cells": [],
        "writings": [],
    },
    ("changes", "Book"): {
        None: ["plank"], "change": ["place", "value", "needs"], "in_hand": ["place"], "newest": ["place"], "waiting": [],
        "needed": ["number"], "closure": ["numbers"],
    },
    ("holds", "Hold"): {
        None: ["plank"], "change": ["place", "value", "needs"], "in_hand": ["place"], "newest": ["place"], "waiting": [],
        "needed": ["number"], "closure": ["numbers"], "write": ["block"],
    },
    ("brooms", "Broom"): {None: [], "chosen": ["hold"]},
    ("brooms", "Fullest"): {None: [], "chosen": ["hold"]},
    ("brooms", "Round"): {None: [], "chosen": ["hold"]},
    ("layouts", "Layout"): {
        None: ["names", "records", "pieces", "cells"], "name_at": ["k"], "record_at": ["k"], "piece_at": ["k"],
        "record_mark": ["k"], "piece_mark": ["k"], "counts": [], "blocks": [], "plank": [],
    },
    ("stores", "Store"): {
        None: ["layout", "plank"], "make": ["name"], "link": ["old", "new"], "cut": ["name"], "put": ["name", "text"],
        "take": ["name", "at"], "move": ["old", "new"], "names": [], "texts": ["name"], "write": ["block"], "layout": [],
        "hold": [],
    },
    ("house", "House"): {None: ["layout"], "say": ["row"], "plank": []},
}


def arguments(function):
    return list(inspect.signature(function).parameters)


def module(name):
    return importlib.import_module("holdback." + name)


class InterfaceTest(unittest.TestCase):
    def test_functions(self):
        for file, functions in FUNCTIONS.items():
            for name, expected in functions.items():
                self.assertEqual(arguments(getattr(module(file), name)), expected, name)

    def test_classes(self):
        for (file, name), methods in CLASSES.items():
            made = getattr(module(file), name)
            for method, expected in methods.items():
                told = arguments(made) if method is None else arguments(getattr(made, method))[1:]
                self.assertEqual(told, expected, (name, method))

    def test_bases(self):
        self.assertTrue(issubclass(module("holds").Hold, module("changes").Book))
        for name in ("Fullest", "Round"):
            self.assertTrue(issubclass(getattr(module("brooms"), name), module("brooms").Broom))


if __name__ == "__main__":
    unittest.main()
