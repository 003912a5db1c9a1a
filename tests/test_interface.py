"""The names, arguments and kinds that the document's interface tells."""

import importlib
import inspect
import unittest

from dealtables.keepers import Keeper

FUNCTIONS = {
    "schemas": {"is_test": 2, "is_schema": 1, "is_row": 2, "is_store": 2},
    "writing": {"written": 1},
    "reading": {"read": 1},
    "holding": {"holds": 3},
    "breaking": {"key_of": 2, "row_of": 4, "breaks": 2, "kept": 3, "is_good": 2},
    "doing": {"is_deed": 2, "going": 4, "done": 3},
    "dealing": {"deal": 3, "after_all": 3},
    "asking": {"picked": 4, "matched": 4, "referring": 4, "grouped": 4},
    "reaching": {"may_go": 2, "may_gap": 2, "may_hold": 2, "with_rule": 3, "without_rule": 3, "finds": 4},
    "logs": {"sum_of": 1, "written_base": 2, "written_deal": 1},
    "coming": {"back_from": 2, "thinned": 2},
    "hands": {"both": 4, "touched": 3, "apart": 4},
}
# Of methods the keeper itself is counted among the arguments.
METHODS = {"deal": 2, "store": 1, "log": 1, "thin": 1, "stop": 2, "undo": 1}


class TheInterface(unittest.TestCase):
    def test_functions(self):
        for module, names in FUNCTIONS.items():
            for name, many in names.items():
                function = getattr(importlib.import_module("dealtables." + module), name)
                self.assertEqual(function.__module__, "dealtables." + module)
                self.assertEqual(len(inspect.signature(function).parameters), many, name)

    def test_keepers(self):
        self.assertEqual(Keeper.__module__, "dealtables.keepers")
        self.assertEqual(len(inspect.signature(Keeper).parameters), 1)
        for name, many in METHODS.items():
            self.assertEqual(len(inspect.signature(getattr(Keeper, name)).parameters), many, name)


if __name__ == "__main__":
    unittest.main()
