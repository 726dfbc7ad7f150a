"""Comings that bring a thing to a chain (point 22, and 2 for it), held against all comings that keep the marks."""

import copy
import random
import unittest

from latewell.back import back_coming
from latewell.comings import first_marks
from latewell.works import read_works
from samples import IN_BOUNDS, SMALL_BOUNDS, some_chains, some_marks, some_names, some_works, still_comings, things_about
from walked import all_brought, thing_kept, walked

ROWS = ("in a -4 20", "in b * *")
MARKS = {"a": 6, "b": 3}


def told_of(rows, thing, marks=None):
    """The coming told of a thing of the last of the rows, which stand behind the two ins."""
    works = read_works("\n".join(ROWS + tuple(rows)))
    return back_coming(works, marks or MARKS, works[-1][1], thing)


class Back(unittest.TestCase):
    def test_an_in(self):
        works = read_works("\n".join(ROWS))
        self.assertEqual(back_coming(works, MARKS, "a", (6, "k", 20)), ("thing", "a", 6, "k", 20))
        self.assertEqual(back_coming(works, MARKS, "a", (10 ** 200, "k", -4)), ("thing", "a", 10 ** 200, "k", -4))
        self.assertEqual(back_coming(works, MARKS, "b", (3, "k", -10 ** 200)), ("thing", "b", 3, "k", -10 ** 200))

    def test_below_the_mark(self):
        works = read_works("\n".join(ROWS))
        self.assertIsNone(back_coming(works, MARKS, "a", (5, "k", 0)))
        self.assertIsNone(back_coming(works, MARKS, "b", (2, "k", 0)))
        self.assertIsNone(told_of(["later x a 4"], (9, "k", 0)))
        self.assertEqual(told_of(["later x a 4"], (10, "k", 0)), ("thing", "a", 6, "k", 0))

    def test_beyond_low_and_high(self):
        works = read_works("\n".join(ROWS))
        self.assertIsNone(back_coming(works, MARKS, "a", (6, "k", -5)))
        self.assertIsNone(back_coming(works, MARKS, "a", (6, "k", 21)))
        self.assertIsNone(told_of(["turn x a -2 1"], (6, "k", 11)))
        self.assertIsNone(told_of(["turn x a -2 1"], (6, "k", -41)))
        self.assertEqual(told_of(["turn x a -2 1"], (6, "k", 9)), ("thing", "a", 6, "k", -4))
        self.assertEqual(told_of(["turn x a -2 1"], (6, "k", -39)), ("thing", "a", 6, "k", 20))

    def test_a_closed_in(self):
        works = read_works("\n".join(ROWS))
        self.assertIsNone(back_coming(works, {"a": None, "b": 0}, "a", (6, "k", 0)))
        self.assertIsNone(told_of(["later x a 4"], (10, "k", 0), {"a": None, "b": 0}))
        self.assertIsNone(told_of(["pour x a b"], (10, "k", 0), {"a": None, "b": None}))

    def test_each_word(self):
        for row, thing, wanted in (
            ("time x a 2 9", (8, "k", 0), (8, "k", 0)), ("time x a 2 9", (9, "k", 0), None),
            ("time x a 7 9", (6, "k", 0), None), ("only x a k l", (6, "l", 0), (6, "l", 0)),
            ("only x a k l", (6, "m", 0), None), ("but x a k l", (6, "m", 0), (6, "m", 0)),
            ("but x a k l", (6, "l", 0), None), ("span x a 0 5", (6, "k", 5), (6, "k", 5)),
            ("span x a 0 5", (6, "k", 6), None), ("span x a 0 5", (6, "k", -1), None),
            ("rest x a 3 1", (6, "k", -2), (6, "k", -2)), ("rest x a 3 1", (6, "k", 2), None),
            ("turn x a 3 1", (6, "k", 16), (6, "k", 5)), ("turn x a 3 1", (6, "k", 15), None),
            ("turn x a -1000 7", (6, "k", 2007), (6, "k", -2)), ("later x a 0", (6, "k", 0), (6, "k", 0)),
            ("later x a 999999999999", (999999999999 + 6, "k", 0), (6, "k", 0)), ("later x a 5", (4, "k", 0), None),
            ("put x a k l l k", (6, "k", 0), (6, "l", 0)), ("put x a k l", (6, "m", 0), (6, "m", 0)),
            ("put x a k l", (6, "k", 0), None), ("put x a k l l k m k", (6, "m", 0), None),
        ):
            self.assertEqual(told_of([row], thing), wanted and ("thing", "a") + wanted, (row, thing))

    def test_one_of_several_keys(self):
        self.assertIn(told_of(["put x a k l m l"], (6, "l", 0)), [("thing", "a", 6, key, 0) for key in "klm"])
        self.assertIn(told_of(["but o a l", "put x o k l m l"], (6, "l", 0)), [("thing", "a", 6, key, 0) for key in "km"])
        self.assertEqual(told_of(["only o a m", "put x o k l m l"], (6, "l", 0)), ("thing", "a", 6, "m", 0))
        self.assertIsNone(told_of(["only o a n", "put x o k l m l"], (6, "l", 0)))

    def test_through_several_rows(self):
        rows = ["turn t a 3 0", "put p t k l", "but n p m", "later y n 4", "rest r y 2 0", "only o r l", "time x o 0 12"]
        self.assertIn(told_of(rows, (11, "l", -6)), [("thing", "a", 7, "k", -2), ("thing", "a", 7, "l", -2)])
        for thing in ((12, "l", -6), (9, "l", -6), (11, "k", -6), (11, "l", -3), (11, "l", -8), (11, "l", 66)):
            self.assertIsNone(told_of(rows, thing), thing)

    def test_a_pour(self):
        self.assertEqual(told_of(["pour x a b"], (5, "k", 0)), ("thing", "b", 5, "k", 0))
        self.assertEqual(told_of(["pour x a b"], (6, "k", 0), {"a": 6, "b": None}), ("thing", "a", 6, "k", 0))
        self.assertEqual(told_of(["pour x b a"], (6, "k", 0), {"a": 6, "b": None}), ("thing", "a", 6, "k", 0))
        self.assertEqual(told_of(["pour x b a"], (6, "k", 21)), ("thing", "b", 6, "k", 21))
        self.assertIsNone(told_of(["pour x a b"], (2, "k", 0)))

    def test_pours_upon_pours(self):
        rows = ["rest i a 2 0", "rest j a 2 1", "turn k j 10 0", "pour p i k b", "later y p 5", "only o p m",
                "but n y m", "pour x o n"]
        shut = {"a": 6, "b": None}
        self.assertEqual(told_of(rows, (6, "m", 4), shut), ("thing", "a", 6, "m", 4))
        self.assertEqual(told_of(rows, (6, "m", 30), shut), ("thing", "a", 6, "m", 3))
        self.assertEqual(told_of(rows, (11, "k", 30), shut), ("thing", "a", 6, "k", 3))
        self.assertEqual(told_of(rows, (8, "k", 40)), ("thing", "b", 3, "k", 40))
        for thing in ((6, "k", 4), (10, "k", 4), (5, "m", 4), (6, "m", 3), (6, "m", 40)):
            self.assertIsNone(told_of(rows, thing, shut), thing)


class Drawn(unittest.TestCase):
    def assertBack(self, dice, bounds, end, values, sure):
        works = some_chains(dice, some_names(dice), bounds)[0]
        marks = some_marks(dice, works)
        comings = still_comings(works, marks, end, values)
        for name, things in all_brought(works, comings).items():
            came = set(things)
            boxes = [(("but", ()), thing[0], thing[0] + 1, (thing[2], thing[2], 1, 0))
                     for thing in dice.sample(things, min(len(things), 6))]
            about = list(things_about(boxes, range(end), sure))
            about += [(dice.randrange(end), dice.choice("abcdq"), dice.choice(sure)) for _ in range(20)]
            about += dice.sample(things, min(len(things), 20))
            for thing in about:
                told = back_coming(works, marks, name, thing)
                self.assertEqual(told is not None, thing in came, (works, marks, name, thing))
                if told is not None:
                    self.assertTrue(thing_kept(works, marks, told), told)
                    self.assertEqual(walked(works, told)[name], [thing], (works, told))

    def test_ins_with_few_values(self):
        dice = random.Random(65)
        for _ in range(40):
            self.assertBack(dice, SMALL_BOUNDS, 20, range(-6, 10), range(-300, 300))

    def test_ins_without_bounds(self):
        dice = random.Random(66)
        for _ in range(6):
            self.assertBack(dice, IN_BOUNDS, 12, range(-70, 71), range(-15, 16))


class Own(unittest.TestCase):
    def test_nothing_handed_in_is_changed(self):
        dice = random.Random(67)
        for _ in range(30):
            works = some_works(dice)
            marks = some_marks(dice, works)
            kept = copy.deepcopy((works, marks))
            for name in first_marks(works):
                back_coming(works, marks, name, (5, "a", 2))
            self.assertEqual((works, marks), kept)


if __name__ == "__main__":
    unittest.main()
