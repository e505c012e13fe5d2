import inspect
import unittest

from fairposts import (
    beats, benches, curtains, desks, errors, exchanges, gadgets, holds, parts, rounds, rows, spans, texts, things, ties,
    webs,
)

FUNCTIONS = {
    rounds: {"is_prime": ["thing"], "is_round": ["p", "thing"], "inverse": ["p", "number"],
             "chosen": ["p", "many", "number"]},
    rows: {"is_row": ["p", "posts", "thing"], "nought": ["posts"], "added": ["p", "one", "other"],
           "times": ["p", "number", "row"], "meet": ["p", "one", "other"], "part": ["row", "posts"]},
    spans: {"plain": ["p", "posts", "rows"], "mirror": ["p", "posts", "rows"], "is_in": ["p", "posts", "rows", "row"],
            "in_paper": ["p", "posts", "rows", "row"], "in_holds": ["p", "posts", "rows", "row", "thing"]},
    gadgets: {"spring": ["p", "k"], "lever": ["p", "k"], "knot": ["p", "many"], "ring": ["p", "many"],
              "by_table": ["p", "hold", "table"], "is_gadget": ["p", "thing"], "made": ["p", "gadget"],
              "width": ["gadget"]},
    ties: {"beside": ["one", "other"], "ordered": ["thing", "order"], "turned_over": ["thing"],
           "joined": ["thing", "one", "other"], "stilled": ["thing", "post"], "freed": ["thing", "post"]},
    holds: {"is_hold": ["posts", "thing"], "stands": ["thing", "hold"], "still_hands": ["thing", "hold"],
            "read": ["thing", "hold", "numbers"], "table": ["thing", "hold"], "hold_paper": ["thing", "hold"],
            "paper_holds": ["thing", "hold", "paper"], "mended": ["thing", "hold"], "all_holds": ["thing"]},
    exchanges: {"exchanged": ["thing", "hold", "posts"], "turned": ["p", "hold", "table", "posts"],
                "way": ["thing", "one", "other"], "way_holds": ["thing", "one", "other", "paper"]},
    webs: {"web_fault": ["thing"], "left": ["web"], "thing_of": ["web"], "is_full": ["web", "thing"],
           "let_paper": ["web", "row"], "let_holds": ["web", "row", "paper"], "webs_paper": ["one", "other"],
           "webs_hold": ["one", "other", "paper"], "folded": ["web", "numbers"]},
    curtains: {"judged_holds": ["p", "posts", "rows", "hold", "paper"]},
    parts: {"falls_apart": ["thing", "posts"], "parts_of": ["thing"], "part_of": ["thing", "posts"],
            "things_with": ["p", "posts"], "tables_with": ["p", "posts"]},
    beats: {"stepped": ["thing", "hold", "wires", "numbers"], "far": ["thing", "hold", "wires", "numbers", "many"],
            "round_of": ["thing", "hold", "wires", "numbers"]},
    texts: {"gadget_text": ["gadget"], "web_text": ["web"], "read_web": ["text"]},
}

VALUES = {rounds: {"PRIMES": (2, 3, 5, 7, 11, 13), "POSTS": 10}, webs: {"GADGETS": 12, "WIDEST": 20},
          benches: {"DEEDS": 60}, curtains: {"THINGS": 400}, beats: {"ROUNDS": 3000}}

METHODS = {
    things.Thing: {"__init__": ["p", "rows"], "p": [], "posts": [], "rows": [], "has": ["row"], "told": [],
                   "__eq__": ["other"], "__len__": [], "__str__": []},
    benches.Bench: {"__init__": ["p", "most"], "put": ["gadget"], "join": ["one", "other"], "still": ["post"],
                    "free": ["post"], "exchange": ["one", "other"], "hold": ["post", "number"], "back": [],
                    "read": ["post"], "posts": [], "sides": [], "numbers": [], "stand": [], "web": [], "log": [],
                    "thing": [], "twin": [], "__eq__": ["other"], "__len__": [], "__str__": []},
    curtains.Curtain: {"__init__": ["p", "posts"], "tell": ["row"], "kept": [], "many": [], "fits": ["thing"],
                       "judged": ["hold"], "things": [], "__eq__": ["other"], "__len__": []},
    desks.Desk: {"__init__": ["p", "most"], "say": ["row"], "heard": []},
}

ERRORS = {"BadThing": ["place"], "BadGadget": [], "BadPost": ["post"], "BadNumber": ["number"], "BadText": ["row"],
          "NotFair": ["number"], "NotApart": [], "Still": ["hand"], "TooMany": ["bound"], "NoBack": []}


class Interface(unittest.TestCase):
    def test_functions_and_arguments(self):
        for module, functions in FUNCTIONS.items():
            for name, arguments in functions.items():
                function = getattr(module, name)
                self.assertEqual(function.__module__, module.__name__)
                self.assertEqual(list(inspect.signature(function).parameters), arguments)

    def test_methods_stand_in_the_class_itself(self):
        for kind, methods in METHODS.items():
            for name, arguments in methods.items():
                self.assertIn(name, vars(kind))
                self.assertEqual(list(inspect.signature(vars(kind)[name]).parameters), ["self", *arguments])

    def test_values(self):
        for module, values in VALUES.items():
            for name, value in values.items():
                self.assertEqual(getattr(module, name), value)
                self.assertIs(type(getattr(module, name)), type(value))

    def test_defaults(self):
        for kind in (benches.Bench, desks.Desk):
            self.assertEqual(inspect.signature(kind).parameters["most"].default, 60)
            self.assertEqual(inspect.signature(kind).parameters["most"].kind, inspect.Parameter.KEYWORD_ONLY)
        self.assertIsNone(inspect.signature(benches.Bench.exchange).parameters["other"].default)

    def test_errors_and_arguments(self):
        for name, arguments in ERRORS.items():
            self.assertEqual(list(inspect.signature(getattr(errors, name)).parameters), arguments)


if __name__ == "__main__":
    unittest.main()
