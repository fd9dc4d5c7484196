"""The interface at the end of the document: names, and arguments that are handed in by their places."""

import importlib
import inspect
import unittest

FUNCTIONS = {
    "wholes": ["is_whole/1", "common/2", "multiple_of/1", "product_of/1", "rest_sum/3"],
    "vault": ["nought/1", "is_setting/2", "is_pulls/2", "kept/2", "turned/3", "pulled/3", "pulled/4", "between/3"],
    "texts": ["show_numbers/1", "read_numbers/1", "show_vault/1", "read_vault/1"],
    "papers": ["weigh/3"],
    "rungs": ["bring/3"],
    "classes": [
        "together_count/1", "class_count/1", "least_of/2", "belong/3", "all_together/2", "normal/2", "does_as/2",
        "picked/2", "enough/2", "needless/1", "fewest_levers/1",
    ],
    "stills": ["clear/1", "stills/1", "is_still/2", "all_stills/1", "written/2"],
    "pairs": ["together/2", "both/2", "both_ways/2", "seen_vault/2"],
    "gears": ["image/2", "led_into/2"],
    "locks": ["met/3", "open_from/3"],
    "build": ["ended/2", "alike/2"],
    "roads": ["cheapest/3"],
    "desk": ["answers_to/1"],
}
CLASSES = {
    "errors": {
        "VaultError": ["word/0"], "NoNumber": [], "NoSetting": [], "NoPulls": [], "TooMany": [], "Unlike": [],
        "NoText": [], "NoLine": [], "NoDial": [], "NoGear": [], "NoLever": [], "NoPrice": [], "NoLock": [],
    },
    "vault": {"Vault": ["/2", "/3", "sizes/0", "levers/0", "prices/0", "around/0"]},
    "papers": {
        "Paper": ["/0", "brings/0", "shows/3", "words/0"], "Way": ["/1", "brings/0", "shows/3", "words/0"],
        "Bar": ["/1", "brings/0", "shows/3", "words/0"],
    },
    "rungs": {
        "Rungs": ["/1", "steps/0", "rows/0", "spans/0", "idle/0", "least/1", "pulls_to/1", "weights_at/1"],
    },
    "gears": {"Gear": ["/3", "led/1"]},
    "locks": {"Lock": ["/3"], "Shut": ["/1", "brings/0", "shows/3", "words/0", "bars/3"]},
    "build": {"Build": ["/1", "numbers/0", "forth_table/0", "forth/1", "back/1", "back_of/1"]},
    "roads": {"Roads": ["/2", "table/0", "price_of/1", "road/1", "dearest/0"]},
    "desk": {"Desk": ["/0", "say/1"]},
}


class Interface(unittest.TestCase):
    def check(self, holder, told, ahead):
        name, count = told.split("/")
        thing = getattr(holder, name) if name else holder
        places = [None] * (int(count) + (ahead if name else 0))
        inspect.signature(thing).bind(*places)

    def test_functions(self):
        for module, listed in FUNCTIONS.items():
            for told in listed:
                self.check(importlib.import_module("dialvault." + module), told, 0)

    def test_classes(self):
        for module, listed in CLASSES.items():
            for name, methods in listed.items():
                kind = getattr(importlib.import_module("dialvault." + module), name)
                self.assertTrue(inspect.isclass(kind))
                for told in methods:
                    self.check(kind, told, 1)

    def test_papers_stand_under_paper(self):
        paper = importlib.import_module("dialvault.papers").Paper
        for module, name in (("papers", "Way"), ("papers", "Bar"), ("locks", "Shut")):
            self.assertEqual(getattr(importlib.import_module("dialvault." + module), name).__bases__, (paper,))


if __name__ == "__main__":
    unittest.main()
