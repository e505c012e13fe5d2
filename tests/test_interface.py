import inspect
import unittest

from fairposts import errors, rounds, rows, spans

FUNCTIONS = {
    rounds: {"is_prime": ["thing"], "is_round": ["p", "thing"], "inverse": ["p", "number"],
             "chosen": ["p", "many", "number"]},
    rows: {"is_row": ["p", "posts", "thing"], "nought": ["posts"], "added": ["p", "one", "other"],
           "times": ["p", "number", "row"], "meet": ["p", "one", "other"], "part": ["row", "posts"]},
    spans: {"plain": ["p", "posts", "rows"], "mirror": ["p", "posts", "rows"], "is_in": ["p", "posts", "rows", "row"],
            "in_paper": ["p", "posts", "rows", "row"], "in_holds": ["p", "posts", "rows", "row", "thing"]},
}

ERRORS = {"BadThing": ["place"], "BadGadget": [], "BadPost": ["post"], "BadNumber": ["number"], "BadText": ["row"],
          "NotFair": ["number"], "NotApart": [], "Still": ["hand"], "TooMany": ["bound"], "NoBack": []}


class Interface(unittest.TestCase):
    def test_functions_and_arguments(self):
        for module, functions in FUNCTIONS.items():
            for name, arguments in functions.items():
                function = getattr(module, name)
                self.assertEqual(function.__module__, module.__name__)
                self.assertEqual(list(inspect.signature(function).parameters), arguments)

    def test_errors_and_arguments(self):
        for name, arguments in ERRORS.items():
            self.assertEqual(list(inspect.signature(getattr(errors, name)).parameters), arguments)


if __name__ == "__main__":
    unittest.main()
