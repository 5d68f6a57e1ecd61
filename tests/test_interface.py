"""The interface: each function under its name, with its arguments as they are told."""

import importlib
import inspect
import unittest

FUNCTIONS = {
    "states": {"moves": ["rule", "state"], "done": ["rule", "state", "some"]},
    "ways": {"left": ["rule", "state", "peg"], "next_move": ["rule", "state", "peg"],
             "behind": ["rule", "state", "peg", "number"]},
    "pairs": {"apart": ["rule", "one", "other"], "number_of": ["state"], "state_of": ["discs", "number"]},
    "texts": {"written": ["state"], "read": ["text"]},
}


class Interface(unittest.TestCase):
    def test_names_and_arguments(self):
        for module, functions in FUNCTIONS.items():
            for name, arguments in functions.items():
                with self.subTest(module=module, name=name):
                    function = getattr(importlib.import_module("towerrow." + module), name)
                    told = inspect.signature(function).parameters.values()
                    self.assertEqual([each.name for each in told], arguments)
                    self.assertEqual({each.kind for each in told}, {inspect.Parameter.POSITIONAL_OR_KEYWORD})
                    self.assertEqual({each.default for each in told}, {inspect.Parameter.empty})


if __name__ == "__main__":
    unittest.main()
