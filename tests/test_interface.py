"""The names, arguments and kinds of values of the interface, and what point 1 says of all functions."""

import copy
import importlib
import inspect
import unittest

from cutledger.blocks import block_of
from cutledger.disks import blank_disk
from cutledger.lives import after
from helpers import CHECK, NEVER, SYNC, TIDY, write

INTERFACE = {
    "bytecodes": {
        "number_to": "value", "fixed_to": "value, many", "text_to": "text", "thing_to": "thing", "number_from": "row, at",
        "fixed_from": "row, at, many", "text_from": "row, at", "thing_from": "row, at",
    },
    "checksums": {
        "check_of": "row", "sealed": "row", "flipped": "row, flips", "is_sealed": "row", "is_unseen": "length, flips",
        "least_unseen": "length",
    },
    "blocks": {
        "block_of": "stamp, label", "torn": "old, new, cells", "label_of": "block", "stamps_of": "block", "is_never": "block",
    },
    "disks": {
        "blocks": "shape", "page_place": "shape, number", "ring_place": "shape, number", "next_stamp": "shape, image",
        "next_epoch": "shape, image", "blank_disk": "shape", "kinds": "shape, image", "changed": "state, batch",
    },
    "recovery": {
        "head_of": "shape, image", "log_of": "shape, image", "end_of": "shape, image", "used": "shape, image",
        "floor_of": "shape, image", "state_as_of": "shape, image, commit", "recovered": "shape, image", "sound": "shape, image",
    },
    "lives": {"steps": "shape, image, deeds", "ends": "shape, image, deeds", "after": "shape, image, deeds"},
    "cuts": {
        "waiting": "shape, image, deeds, count", "promise": "shape, image, deeds, count", "cut_image": "shape, image, deeds, cut",
        "can_come": "shape, image, deeds, count", "fates_for": "shape, image, deeds, count, commit",
        "shows_fates": "shape, image, deeds, count, commit, value",
    },
    "odds": {
        "ways": "shape, image, deeds, count", "chances": "shape, image, deeds, count, sure",
        "mean_lost": "shape, image, deeds, count, sure",
    },
    "leaving": {"can_leave": "shape, image, deeds, other", "cut_to": "shape, image, deeds, other", "count_images": "shape, image, deeds"},
    "stories": {
        "left": "shape, story", "kept": "shape, story", "history": "shape, story", "is_kept": "shape, story",
        "reach": "shape, story, deeds, count", "lost_by": "shape, story", "same_end": "shape, one, other",
    },
    "plans": {
        "fewest_checks": "shape, batches", "least_blocks": "shape, batches", "cheapest": "shape, batches",
        "shows_cheapest": "shape, batches, value", "with_syncs": "shape, image, deeds, most",
    },
    "dumps": {"write_deeds": "deeds", "read_deeds": "text", "show_image": "shape, image"},
    "cellcodes": {"row_key": "kinds, values", "row_of_key": "kinds, key"},
    "vacuum": {"living": "state", "free_pages": "state", "tightened": "state"},
    "questions": {"statement_of": "text"},
    "faults": {"faults": "state"},
    "pairs": {
        "joined": "shape, one, other", "harmed": "shape, image, harm", "pair_images": "shape, image, deeds, cut",
        "pair_ways": "shape, image, deeds, count", "pair_chances": "shape, image, deeds, count, sure", "scars": "shape, one, other",
    },
}

# Functions that are passed a page set, tables, a work or a base, which they may change, or a statement.
OF_OBJECTS = {
    "questiontexts": {"statement_text": "statement"},
    "ways": {"way_to": "tables, table, test"},
    "answers": {"answered": "work, statement, plain=False", "asked": "work, text", "said": "base, text"},
    "basetexts": {"text_of": "work", "load": "work, text"},
    "trees": {
        "new_tree": "pages", "find": "pages, root, key", "put_in": "pages, root, key, value", "drop_from": "pages, root, key",
        "entries": "pages, root, low, high", "nodes_of": "pages, root", "height": "pages, root", "leave_tree": "pages, root",
        "packed": "pages, root",
    },
}
CLASSES = {
    ("pagestores", "PageStore"): ("shape, image=None", {
        "write": "batch", "sync": "", "check": "", "tidy": "", "read": "number", "as_of": "commit", "image": "", "cut": "fates",
    }, ("commit", "state", "free", "waiting", "sure")),
    ("pagesets", "PageSet"): ("state, free", {
        "get": "number", "put": "number, page", "take": "", "leave": "number", "batch": "", "whole_state": "",
    }, ("free",)),
    ("tables", "Tables"): ("pages", {
        "make": "schema", "make_index": "index", "make_guard": "guard", "remove": "name", "schemas": "", "indexes": "", "guards": "",
        "put": "table, row", "get": "table, key", "drop": "table, key", "rows": "table, low, high", "rows_by": "index, low, high",
    }, ()),
    ("works", "Base"): ("shape, image=None", {
        "begin": "", "as_of": "commit", "sync": "", "check": "", "cut": "fates",
    }, ("commit", "sure", "waiting", "state")),
    # A work is made by a base alone, so how is not told.
    ("works", "Work"): ("base", {
        "make": "schema", "make_index": "index", "make_guard": "guard", "remove": "name", "schemas": "", "indexes": "", "guards": "",
        "put": "table, row", "get": "table, key", "drop": "table, key", "rows": "table, low, high", "rows_by": "index, low, high",
        "finish": "", "leave": "",
    }, ()),
}

SHAPE = (3, 5)
BLANK = blank_disk(SHAPE)
DEEDS = (write((0, (1,)), (2, (2,))), SYNC, write((1, (3,))), TIDY, CHECK, write((0, (4,))))
IMAGE = after(SHAPE, BLANK, (write((1, (9,))), CHECK, write((2, (8,)))))
LABEL = ("part", 0, 1, 1, 1, 0, (5,))
BLOCK = block_of(3, LABEL)
# A state with a table at page 2 and nothing on page 1.
STATE = ((0, 1, 2, 33, 0, 4, 1, 2, 1, 33), (), (0, 0))
ARGUMENTS = {
    "value": 300, "many": 2, "text": "ab", "thing": (1, ("a", ())), "row": (2, 1, 0, 5), "at": 0, "flips": (1, 5, 9), "length": 4,
    "stamp": 7, "label": LABEL, "old": NEVER, "new": BLOCK, "cells": 3, "block": BLOCK, "shape": SHAPE, "number": 1, "image": IMAGE,
    "state": ((), (1,), ()), "batch": ((0, (2,)), (2, ())), "commit": 2, "deeds": DEEDS, "count": 2, "cut": (2, (8, 0)),
    "sure": (1, 3), "other": after(SHAPE, IMAGE, DEEDS), "most": 1, "batches": (((0, (1,)), (1, (2,))), ((2, (3,)),)),
    "story": ((DEEDS, (2, (8, 8))), ((SYNC,), (1, ()))), "one": ((DEEDS, (2, (8, 8))),),
    "kinds": ("number", "text", "truth"), "values": (-5, "a~", False), "key": (15, 66, 59, 65, 94, 0, 1), "harm": ((0, (1, 5)), (6, (100,))),
}
# Arguments that a function takes in another sense than others.
OTHER_ARGUMENTS = {
    "living": {"state": STATE}, "free_pages": {"state": STATE}, "tightened": {"state": STATE}, "faults": {"state": ((0, 0, 1), (5,))},
    "statement_of": {"text": "take a from b where c = 'd' by e down"}, "joined": {"one": IMAGE, "other": BLANK}, "scars": {"one": IMAGE, "other": BLANK},
    "pair_images": {"cut": (2, (8, 0), (3, 8))},
    "text_from": {"row": (1, 5)}, "read_deeds": {"text": "sync\nwrite 0:05"}, "same_end": {"other": ((DEEDS, (3, ())),)},
    "reach": {"deeds": (SYNC, write((0, (1,)))), "count": 2},
}


def given_to(function, names):
    """Right arguments of a function, by name."""
    own = OTHER_ARGUMENTS.get(function.__name__, {})
    return {name: own.get(name, ARGUMENTS[name]) for name in names.split(", ")}


def functions():
    """Each function of the interface with its file and the names of its arguments."""
    for file, rows in INTERFACE.items():
        module = importlib.import_module(f"cutledger.{file}")
        for name, names in rows.items():
            yield file, getattr(module, name), names


class Interface(unittest.TestCase):
    def test_names_and_arguments(self):
        for file, function, names in functions():
            with self.subTest(function.__name__):
                self.assertEqual(", ".join(inspect.signature(function).parameters), names)
                self.assertTrue(inspect.isfunction(function))
                self.assertEqual(function.__module__, f"cutledger.{file}")

    def test_functions_of_objects(self):
        for file, rows in OF_OBJECTS.items():
            for name, names in rows.items():
                function = getattr(importlib.import_module(f"cutledger.{file}"), name)
                self.assertEqual(str(inspect.signature(function)), f"({names})")
                self.assertTrue(inspect.isfunction(function))
                self.assertEqual(function.__module__, f"cutledger.{file}")

    def test_classes(self):
        for (file, name), (arguments, methods, properties) in CLASSES.items():
            one = getattr(importlib.import_module(f"cutledger.{file}"), name)
            self.assertEqual(one.__module__, f"cutledger.{file}")
            for method, names in {"__init__": arguments, **methods}.items():
                self.assertTrue(inspect.isfunction(vars(one)[method]))
                told_names = str(inspect.signature(vars(one)[method])).strip("()")
                self.assertEqual(told_names, f"self, {names}" if names else "self", (name, method))
            for known in properties:
                self.assertIsInstance(vars(one)[known], property)

    def test_arguments_by_name(self):
        for _, function, names in functions():
            given = given_to(function, names)
            self.assertEqual(function(**given), function(*given.values()))


class Answers(unittest.TestCase):
    def given(self, function, names):
        return list(given_to(function, names).values())

    def test_arguments_are_not_modified_and_equal_arguments_have_equal_answers(self):
        for _, function, names in functions():
            with self.subTest(function.__name__):
                given = self.given(function, names)
                kept = copy.deepcopy(given)
                first = function(*given)
                self.assertEqual(given, kept)
                self.assertEqual(repr(function(*kept)), repr(first))

    def test_answers_in_another_order_of_calls(self):
        rows = list(functions())
        first = [repr(function(*self.given(function, names))) for _, function, names in rows]
        again = [repr(function(*self.given(function, names))) for _, function, names in reversed(rows)]
        self.assertEqual(first, again[::-1])

    def test_answers_are_made_of_tuples(self):
        def plain(value):
            if isinstance(value, tuple):
                return all(plain(part) for part in value)
            return value is None or isinstance(value, (int, str, bool))

        for file, function, names in functions():
            with self.subTest(function.__name__):
                answer = function(*self.given(function, names))
                self.assertTrue(plain(tuple(answer) if file == "faults" else answer))

    def test_truths_are_true_or_false(self):
        for name, file in [("is_sealed", "checksums"), ("is_unseen", "checksums"), ("is_never", "blocks"), ("sound", "recovery"),
                           ("shows_fates", "cuts"), ("can_leave", "leaving"), ("is_kept", "stories"), ("same_end", "stories"),
                           ("shows_cheapest", "plans")]:
            function = getattr(importlib.import_module(f"cutledger.{file}"), name)
            answer = function(*self.given(function, INTERFACE[file][name]))
            self.assertIn(answer, [True, False])
            self.assertIsInstance(answer, bool)

    def test_wrong_lists_and_dicts_are_not_modified(self):
        for _, function, names in functions():
            many = len(names.split(", "))
            for at in range(many):
                for wrong in [[], [1, [2]], {}, {"a": [1]}, ([], {}), (("sync",), ["sync"])]:
                    given = self.given(function, names)
                    given[at] = wrong
                    kept = copy.deepcopy(given)
                    try:
                        function(*given)
                    except ValueError:
                        pass
                    self.assertEqual(given, kept)


if __name__ == "__main__":
    unittest.main()
