"""Comings and marks (points 13, 14, and 2 for them)."""

import copy
import random
import unittest

from latewell.comings import check_coming, first_marks, marked, marks_behind
from latewell.errors import Late, NoComing
from latewell.works import read_works
from samples import some_comings, some_works
from walked import marks_of

TEXT = """in all * *
in few -3 5
in up 0 *
in down * -1
turn t all 1 0
pair p all few 2 sum
fixed f p 5 count
ask q f"""
WORKS = read_works(TEXT)
FIRST = {"all": 0, "few": 0, "up": 0, "down": 0}
GREAT = 10 ** 200 - 1


class Text(str):
    """A text that is still one."""


RIGHT = [
    ("thing", "all", 0, "a", 0), ("thing", "all", 7, "abcdefgh", -5), ("thing", "all", GREAT, "z", GREAT),
    ("thing", "all", 0, "zz", -GREAT), ("thing", "few", 3, "all", -3), ("thing", "few", 3, "k", 5),
    ("thing", "few", 3, "k", 0), ("thing", "up", 1, "k", 0), ("thing", "up", 1, "k", GREAT),
    ("thing", "down", 1, "k", -1), ("thing", "down", 1, "k", -GREAT),
    ("mark", "all", 0), ("mark", "few", 5), ("mark", "up", GREAT), ("close", "all"), ("close", "down"),
    ("thing", Text("all"), 0, Text("a"), 0),
]
NO_COMINGS = [
    # no tuples
    None, True, False, 0, 1, "", "close", "close all", [], {}, ["close", "all"], ["mark", "all", 0],
    ["thing", "all", 0, "a", 0], {"close": "all"}, b"close", 1.5, ..., {"close", "all"},
    # parts more or less
    (), ("close",), ("mark",), ("thing",), ("mark", "all"), ("thing", "all"), ("thing", "all", 0),
    ("thing", "all", 0, "a"), ("close", "all", 0), ("close", "all", None), ("mark", "all", 0, 0),
    ("mark", "all", 0, "a", 0), ("thing", "all", 0, "a", 0, 0), ("close", "all", "all"),
    # another word
    ("", "all"), ("Close", "all"), ("open", "all"), ("Mark", "all", 0), ("in", "all", 0), ("things", "all", 0, "a", 0),
    ("mark", "all", 0, "a", 0), ("thing", "all", 0), ("close", "all", 0, "a", 0), (None, "all"), (0, "all"),
    (True, "all"), (["close"], "all"), ({}, "all", 0), (b"close", "all"), ("all", "close"), ("all", "mark", 0),
    # no such in
    ("close", "none"), ("close", ""), ("close", "All"), ("close", None), ("close", 0), ("close", True),
    ("close", ["all"]), ("close", ("all",)), ("close", {}), ("close", b"all"), ("mark", "none", 0), ("mark", None, 0),
    ("mark", [], 0), ("thing", "none", 0, "a", 0), ("thing", ["all"], 0, "a", 0), ("thing", {}, 0, "a", 0),
    # another row's name
    ("close", "t"), ("close", "p"), ("close", "f"), ("close", "q"), ("mark", "t", 0), ("mark", "q", 0),
    ("thing", "t", 0, "a", 0), ("thing", "p", 0, "a", 0), ("thing", "f", 0, "a", 0), ("thing", "q", 0, "a", 0),
    # no time
    ("mark", "all", -1), ("mark", "all", None), ("mark", "all", True), ("mark", "all", False), ("mark", "all", "0"),
    ("mark", "all", 0.0), ("mark", "all", [0]), ("mark", "all", (0,)), ("mark", "all", -GREAT),
    ("thing", "all", -1, "a", 0), ("thing", "all", None, "a", 0), ("thing", "all", True, "a", 0),
    ("thing", "all", False, "a", 0), ("thing", "all", "0", "a", 0), ("thing", "all", 1.0, "a", 0),
    ("thing", "all", [], "a", 0), ("thing", "all", "a", 0, 0),
    # no key
    ("thing", "all", 0, "", 0), ("thing", "all", 0, "A", 0), ("thing", "all", 0, "a1", 0), ("thing", "all", 0, "a b", 0),
    ("thing", "all", 0, "abcdefghi", 0), ("thing", "all", 0, None, 0), ("thing", "all", 0, 5, 0),
    ("thing", "all", 0, True, 0), ("thing", "all", 0, ["a"], 0), ("thing", "all", 0, ("a",), 0),
    ("thing", "all", 0, b"a", 0), ("thing", "all", 0, "a\n", 0), ("thing", "all", 0, "\u00e9", 0),
    ("thing", "all", 0, {}, 0),
    # no value
    ("thing", "all", 0, "a", None), ("thing", "all", 0, "a", True), ("thing", "all", 0, "a", False),
    ("thing", "all", 0, "a", "0"), ("thing", "all", 0, "a", 0.0), ("thing", "all", 0, "a", []),
    ("thing", "all", 0, "a", (0,)), ("thing", "all", 0, "a", "a"),
    # beyond LOW or HIGH
    ("thing", "few", 0, "a", -4), ("thing", "few", 0, "a", 6), ("thing", "few", 0, "a", True),
    ("thing", "few", 0, "a", GREAT), ("thing", "up", 0, "a", -1), ("thing", "up", 0, "a", -GREAT),
    ("thing", "down", 0, "a", 0), ("thing", "down", 0, "a", GREAT),
]


class Refusals(unittest.TestCase):
    def assertRefused(self, refusal, call, *arguments):
        """That a call is refused with just this class, and what is handed in stays as it is."""
        kept = copy.deepcopy([argument for argument in arguments if isinstance(argument, (list, dict))])
        with self.assertRaises(refusal) as taken:
            call(*arguments)
        self.assertIs(type(taken.exception), refusal)
        self.assertEqual([argument for argument in arguments if isinstance(argument, (list, dict))], kept)


class First(Refusals):
    def test_all_ins_at_0(self):
        self.assertEqual(first_marks(WORKS), FIRST)
        self.assertEqual(list(first_marks(WORKS)), ["all", "few", "up", "down"])
        self.assertEqual(first_marks(read_works("in a 5 9")), {"a": 0})


class Checked(Refusals):
    def test_comings(self):
        for coming in RIGHT:
            with self.subTest(coming=coming):
                self.assertIsNone(check_coming(WORKS, dict(FIRST), coming))

    def test_what_is_no_coming_whatever_the_marks(self):
        for marks in (FIRST, dict.fromkeys(FIRST, 9), dict.fromkeys(FIRST, GREAT), dict.fromkeys(FIRST)):
            for number, coming in enumerate(NO_COMINGS):
                with self.subTest(number=number, marks=marks):
                    kept = repr(coming)
                    self.assertRefused(NoComing, check_coming, WORKS, dict(marks), coming)
                    self.assertEqual(repr(coming), kept)

    def test_at_the_mark_and_below_it(self):
        marks = {"all": 7, "few": 0, "up": 7, "down": 7}
        for time in (7, 8, GREAT):
            self.assertIsNone(check_coming(WORKS, marks, ("thing", "all", time, "a", 0)))
            self.assertIsNone(check_coming(WORKS, marks, ("mark", "all", time)))
        for time in (6, 0):
            self.assertRefused(Late, check_coming, WORKS, marks, ("thing", "all", time, "a", 0))
            self.assertRefused(Late, check_coming, WORKS, marks, ("mark", "all", time))
        self.assertIsNone(check_coming(WORKS, marks, ("close", "all")))

    def test_each_in_has_its_own_mark(self):
        marks = {"all": 7, "few": 0, "up": None, "down": 3}
        for coming in (("thing", "few", 0, "a", 0), ("mark", "few", 0), ("thing", "down", 3, "a", -1), ("close", "few")):
            self.assertIsNone(check_coming(WORKS, marks, coming))
        for coming in (("thing", "all", 3, "a", 0), ("mark", "all", 3), ("mark", "down", 2), ("close", "up")):
            self.assertRefused(Late, check_coming, WORKS, marks, coming)

    def test_whatever_comes_where_the_in_is_closed(self):
        marks = {"all": None, "few": 0, "up": 0, "down": 0}
        for coming in (
            ("thing", "all", 0, "a", 0), ("thing", "all", GREAT, "a", 0), ("mark", "all", 0), ("mark", "all", GREAT),
            ("close", "all"),
        ):
            self.assertRefused(Late, check_coming, WORKS, marks, coming)
        self.assertRefused(NoComing, check_coming, WORKS, marks, ("mark", "all", -1))


class Marked(Refusals):
    def test_behind_a_coming(self):
        marks = {"all": 7, "few": None, "up": 0}
        for coming, wanted in (
            (("thing", "all", 9, "a", 0), {"all": 7, "few": None, "up": 0}),
            (("mark", "all", 9), {"all": 9, "few": None, "up": 0}),
            (("mark", "all", 7), {"all": 7, "few": None, "up": 0}),
            (("mark", "up", 0), {"all": 7, "few": None, "up": 0}),
            (("mark", "up", GREAT), {"all": 7, "few": None, "up": GREAT}),
            (("close", "all"), {"all": None, "few": None, "up": 0}),
            (("close", "up"), {"all": 7, "few": None, "up": None}),
        ):
            with self.subTest(coming=coming):
                self.assertEqual(marked(marks, coming), wanted)
                self.assertEqual(marks, {"all": 7, "few": None, "up": 0})

    def test_it_is_a_new_one(self):
        marks = {"all": 7}
        for coming in (("thing", "all", 9, "a", 0), ("mark", "all", 7), ("close", "all")):
            told = marked(marks, coming)
            self.assertIsNot(told, marks)
            told["all"] = 100
            self.assertEqual(marks, {"all": 7})


class Behind(Refusals):
    def test_no_comings(self):
        self.assertEqual(marks_behind(WORKS, []), FIRST)

    def test_a_row_of_comings(self):
        comings = [
            ("thing", "all", 5, "a", 1), ("mark", "all", 5), ("thing", "all", 5, "a", 1), ("mark", "few", 3),
            ("close", "few"), ("thing", "up", 0, "a", 1), ("mark", "all", 8), ("mark", "all", 8), ("close", "up"),
        ]
        self.assertEqual(marks_behind(WORKS, comings), {"all": 8, "few": None, "up": None, "down": 0})

    def test_a_thing_moves_no_mark(self):
        comings = [("thing", "all", 9, "a", 1), ("thing", "all", 2, "a", 1), ("mark", "all", 1)]
        self.assertEqual(marks_behind(WORKS, comings), {"all": 1, "few": 0, "up": 0, "down": 0})

    def test_the_first_refusal(self):
        late = ("thing", "all", 4, "a", 1)
        wrong = ("thing", "few", 4, "a", 6)
        mark = ("mark", "all", 5)
        self.assertRefused(Late, marks_behind, WORKS, [mark, late])
        self.assertRefused(NoComing, marks_behind, WORKS, [mark, wrong])
        self.assertRefused(Late, marks_behind, WORKS, [mark, late, wrong])
        self.assertRefused(NoComing, marks_behind, WORKS, [mark, wrong, late])
        self.assertRefused(NoComing, marks_behind, WORKS, [None, mark, late])
        self.assertRefused(Late, marks_behind, WORKS, [("close", "all"), mark])
        self.assertRefused(Late, marks_behind, WORKS, [("close", "all"), ("close", "all"), None])
        self.assertRefused(Late, marks_behind, WORKS, [mark, ("mark", "all", 4)])
        self.assertEqual(marks_behind(WORKS, [late, mark])["all"], 5)

    def test_each_that_is_no_coming(self):
        for coming in NO_COMINGS:
            self.assertRefused(NoComing, marks_behind, WORKS, [("mark", "all", 5), coming])

    def test_drawn_rows(self):
        dice = random.Random(41)
        for _ in range(200):
            works = some_works(dice)
            comings = some_comings(dice, works, dice.randint(0, 40))
            wanted = marks_of(works, comings)
            kept = copy.deepcopy((works, comings))
            self.assertEqual(marks_behind(works, comings), wanted)
            self.assertEqual((works, comings), kept)
            for name, mark in wanted.items():
                if mark != 0:
                    late = ("close", name) if mark is None else ("mark", name, mark - 1)
                    self.assertRefused(Late, marks_behind, works, comings + [late])


class Own(Refusals):
    def test_what_is_told_is_the_askers_own(self):
        for call, arguments in ((first_marks, ()), (marks_behind, ([],)), (marks_behind, ([("close", "all")],))):
            told = call(WORKS, *arguments)
            kept = dict(told)
            told.clear()
            self.assertEqual(call(WORKS, *arguments), kept)


if __name__ == "__main__":
    unittest.main()
