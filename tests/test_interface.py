"""The names and arguments that the interface tells."""

import importlib
import inspect
import unittest

INTERFACE = {
    "stretches": (
        ("stretch_made", "low high step rest"), ("stretch_meet", "one other"), ("stretch_moved", "one a b"),
        ("stretch_back", "one a b"), ("stretch_above", "one c"), ("stretch_below", "one c"),
        ("stretch_has", "one v"), ("stretch_inside", "one other"), ("stretch_low", "one"),
        ("stretch_high", "one"), ("stretch_some", "one"), ("stretch_not", "one v"),
    ),
    "keysets": (
        ("is_key", "x"), ("keys_hold", "keys key"), ("keys_inside", "one other"), ("keys_meet", "one other"),
        ("keys_put_back", "keys table"), ("keys_put", "keys table"), ("keys_some", "keys others"),
    ),
    "boxes": (
        ("box_made", "keys begin end stretch"), ("box_meet", "one other"), ("row_forth", "row box"),
        ("row_back", "row box"), ("box_has", "box thing"), ("box_inside", "one other"),
    ),
    "works": (
        ("read_works", "text"), ("shown_works", "works"), ("rows_below", "works name"), ("row_named", "works name"),
    ),
    "comings": (
        ("first_marks", "works"), ("check_coming", "works marks coming"), ("marked", "marks coming"),
        ("marks_behind", "works comings"),
    ),
    "chains": (("through_row", "row thing"),),
    "plain": (
        ("chain_things", "works comings"), ("pairs_of", "row lefts rights"), ("fold_cells", "row things"),
        ("told_answer", "row amount"), ("plain_answers", "works comings"),
    ),
    "forth": (("forth_boxes", "works marks"),),
    "back": (("back_coming", "works marks name thing"),),
    "checked": (("origins_of", "works name"), ("check_works", "works")),
    "cells": (("boxes_turn", "works ask key window there boxes"),),
    "turns": (
        ("cell_turning", "works comings ask key window"), ("settles_at", "works comings ask key window name"),
    ),
    "papers": (("settled_paper", "works comings ask key window"),),
    "checker": (("check_paper", "works comings ask key window paper"),),
}


class Interface(unittest.TestCase):
    def test_names_and_arguments(self):
        for module, functions in INTERFACE.items():
            for name, arguments in functions:
                with self.subTest(module=module, name=name):
                    told = getattr(importlib.import_module("latewell." + module), name)
                    self.assertEqual(list(inspect.signature(told).parameters), arguments.split())


if __name__ == "__main__":
    unittest.main()
