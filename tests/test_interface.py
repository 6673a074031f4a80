"""The interface: each name in its file, with the arguments as they stand."""

import importlib
import inspect
import unittest

FUNCTIONS = {
    "ships": {"parts_of": "ship", "cells_of": "ship", "part_at": "ship part"},
    "loads": {"box_at": "load cell", "cell_of": "load name", "top_of": "load part"},
    "rules": {"near": "one other", "faults_of": "load", "sound": "load"},
    "moments": {"moments": "load", "moments_with": "load cell box", "moments_without": "load cell", "even": "load",
                "makeweight": "load part"},
    "lifts": {"after_lift": "load lift", "after_lifts": "load lifts", "sound_row": "load lifts",
              "way_back": "load lifts"},
    "fewest": {"must_off": "load plan", "lifts_to": "load plan", "idle_lifts": "load plan"},
    "places": {"free_places": "load", "bar_at": "load cell box", "bars_of": "load box"},
    "loading": {"loaded": "load boxes", "loaded_by_ports": "load boxes"},
    "fillings": {"in_the_way": "load", "best_filling": "load boxes"},
    "notes": {"written_box": "box", "written_load": "load", "read_load": "ship text"},
    "hall": {"lifts_text": "ship load_text plan_text", "done_text": "ship load_text rows_text"},
}

CLASSES = {
    "ships": {"Ship": "bays foes trim heel"},
    "loads": {"Load": "ship placed"},
    "rules": {"Rule": "", "Strength": "", "Height": "", "Cold": "", "Apart": "", "Lash": ""},
    "voyage": {"Voyage": "ship"},
}

RULE_METHODS = {"word": "", "broken": "load cell"}
VOYAGE_METHODS = {"bring": "box", "plan_for": "placed", "do_lift": "lift", "sail": "", "lifts_left": "", "quay": "",
                  "ashore": "", "log": "", "port": "", "load_now": ""}


def arguments(called):
    return " ".join(inspect.signature(called).parameters)


def module(name):
    return importlib.import_module("stowhold." + name)


class Interface(unittest.TestCase):
    def check(self, tables):
        for name, table in tables.items():
            for called, told in table.items():
                with self.subTest(name=name, called=called):
                    self.assertEqual(arguments(getattr(module(name), called)), told)

    def test_functions(self):
        self.check(FUNCTIONS)
        for name, table in FUNCTIONS.items():
            for called in table:
                self.assertTrue(inspect.isfunction(getattr(module(name), called)), called)

    def test_classes(self):
        self.check(CLASSES)
        for name, table in CLASSES.items():
            for called in table:
                self.assertTrue(inspect.isclass(getattr(module(name), called)), called)

    def test_methods(self):
        for name in CLASSES["rules"]:
            for method, told in RULE_METHODS.items():
                self.assertEqual(arguments(getattr(getattr(module("rules"), name)(), method)), told, (name, method))
        for method, told in VOYAGE_METHODS.items():
            self.assertEqual(arguments(getattr(module("voyage").Voyage, method)), ("self " + told).strip(), method)

    def test_rules_stand_under_rule(self):
        rules = module("rules")
        for name in CLASSES["rules"]:
            self.assertTrue(issubclass(getattr(rules, name), rules.Rule), name)


if __name__ == "__main__":
    unittest.main()
