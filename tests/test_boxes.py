"""Boxes and boxes by rows (points 8, 9), held against things gone through one by one."""

import itertools
import random
import unittest

from latewell.boxes import box_has, box_inside, box_made, box_meet, row_back, row_forth
from samples import ONE_FROM_ROWS, by_row
from walked import in_box

ALL_KEYS = ("but", ())
ALL_VALUES = (None, None, 1, 0)
ALL = (ALL_KEYS, 0, None, ALL_VALUES)
# "q" is named in no box and no row, and stands for all other keys.
NAMES = ("a", "b", "c", "q")
TIMES = range(0, 24)
VALUES = range(-30, 31)
KEYS = (ALL_KEYS, ("but", ("a",)), ("but", ("a", "c")), ("only", ("a",)), ("only", ("a", "b")), ("only", ("b", "c")))
SPANS = ((0, None), (0, 1), (0, 6), (3, None), (3, 6), (5, 9), (7, 8))
STRETCHES = (
    ALL_VALUES, (0, None, 1, 0), (None, -2, 1, 0), (-6, 6, 3, 0), (None, None, 2, 1), (None, None, 6, 4),
    (-5, -5, 1, 0), (4, 8, 1, 0), (None, 7, 4, 3), (-8, None, 3, 1),
)
BOXES = [(keys, begin, end, stretch) for keys in KEYS for begin, end in SPANS for stretch in STRETCHES]
SOME = random.Random(9).sample(BOXES, 60)
THINGS = list(itertools.product(TIMES, NAMES, VALUES))


class Form(unittest.TestCase):
    def assertForm(self, box):
        """That a box is in the form of point 8."""
        if box is None:
            return
        self.assertIs(type(box), tuple)
        (word, names), begin, end, (low, high, step, rest) = box
        self.assertIn(word, ("only", "but"))
        self.assertEqual(names, tuple(sorted(set(names))))
        self.assertTrue(names or word == "but")
        self.assertTrue(begin >= 0 and (end is None or end > begin), box)
        self.assertTrue(step >= 1 and 0 <= rest < step, box)
        self.assertTrue(all(bound is None or bound % step == rest for bound in (low, high)), box)
        if low is not None and high is not None:
            self.assertTrue(low < high or (low == high and (step, rest) == (1, 0)), box)

    def assertThings(self, box, wanted, things=None):
        """That a box in its form has just those of the things that are wanted."""
        self.assertForm(box)
        found = [thing for thing in things or THINGS if in_box(box, thing)]
        self.assertEqual(found, wanted, box)


class Made(Form):
    def test_begin_below_0(self):
        self.assertEqual(box_made(ALL_KEYS, -5, 3, ALL_VALUES), (ALL_KEYS, 0, 3, ALL_VALUES))
        self.assertEqual(box_made(ALL_KEYS, -5, None, ALL_VALUES), ALL)
        self.assertEqual(box_made(ALL_KEYS, -1, 1, ALL_VALUES), (ALL_KEYS, 0, 1, ALL_VALUES))

    def test_end_at_or_below_begin(self):
        self.assertIsNone(box_made(ALL_KEYS, 3, 3, ALL_VALUES))
        self.assertIsNone(box_made(ALL_KEYS, 3, 2, ALL_VALUES))
        self.assertIsNone(box_made(ALL_KEYS, 0, 0, ALL_VALUES))
        self.assertIsNone(box_made(ALL_KEYS, -5, 0, ALL_VALUES))
        self.assertIsNone(box_made(ALL_KEYS, -5, -2, ALL_VALUES))
        self.assertEqual(box_made(ALL_KEYS, 3, 4, ALL_VALUES), (ALL_KEYS, 3, 4, ALL_VALUES))

    def test_keys_or_stretch_none(self):
        self.assertIsNone(box_made(None, 0, None, ALL_VALUES))
        self.assertIsNone(box_made(ALL_KEYS, 0, None, None))
        self.assertIsNone(box_made(None, 0, None, None))

    def test_what_is_a_box_stays_as_it_is(self):
        for box in BOXES:
            self.assertEqual(box_made(*box), box)

    def test_great_times(self):
        great = 10 ** 200 - 1
        self.assertEqual(box_made(ALL_KEYS, great, None, ALL_VALUES), (ALL_KEYS, great, None, ALL_VALUES))
        self.assertIsNone(box_made(ALL_KEYS, great, great, ALL_VALUES))


class Asked(Form):
    def test_has(self):
        for box in SOME:
            for thing in THINGS[::7]:
                self.assertIs(box_has(box, thing), in_box(box, thing), (box, thing))

    def test_the_edges_of_the_times(self):
        box = (("only", ("a",)), 3, 6, (1, 5, 2, 1))
        for time, wanted in ((2, False), (3, True), (5, True), (6, False)):
            self.assertIs(box_has(box, (time, "a", 3)), wanted)
        self.assertIs(box_has(ALL, (10 ** 200, "zz", -(10 ** 200))), True)
        self.assertIs(box_has(box, (3, "b", 3)), False)
        self.assertIs(box_has(box, (3, "a", 2)), False)
        self.assertIs(box_has(box, (3, "a", 7)), False)

    def test_meet(self):
        for one, other in itertools.product(SOME[:30], SOME[::2]):
            wanted = [thing for thing in THINGS[::5] if in_box(one, thing) and in_box(other, thing)]
            met = box_meet(one, other)
            self.assertThings(met, wanted, THINGS[::5])
            self.assertEqual(box_meet(other, one), met)

    def test_meet_where_only_one_side_is_apart(self):
        for apart in (
            (("only", ("b",)), 2, 5, (0, 9, 3, 0)), (("only", ("a",)), 5, 6, (0, 9, 3, 0)),
            (("only", ("a",)), 0, 2, (0, 9, 3, 0)), (("only", ("a",)), 2, 5, (1, 7, 3, 1)),
        ):
            self.assertIsNone(box_meet((("only", ("a",)), 2, 5, (0, 9, 3, 0)), apart))
            self.assertIsNone(box_meet(apart, (("only", ("a",)), 2, 5, (0, 9, 3, 0))))

    def test_inside(self):
        held = {box: {thing for thing in THINGS if in_box(box, thing)} for box in BOXES}
        for one, other in itertools.product(BOXES, SOME):
            self.assertIs(box_inside(one, other), held[one] <= held[other], (one, other))

    def test_inside_where_only_one_side_is_wider(self):
        box = (("only", ("a",)), 2, 5, (0, 9, 3, 0))
        self.assertIs(box_inside(box, box), True)
        for wider in (
            (ALL_KEYS, 2, 5, (0, 9, 3, 0)), (("only", ("a",)), 1, 5, (0, 9, 3, 0)),
            (("only", ("a",)), 2, 6, (0, 9, 3, 0)), (("only", ("a",)), 2, None, (0, 9, 3, 0)),
            (("only", ("a",)), 2, 5, ALL_VALUES),
        ):
            self.assertIs(box_inside(box, wider), True)
            self.assertIs(box_inside(wider, box), False)


class Rows(Form):
    def test_forth(self):
        # What comes to the inner things comes of one among all: a turn takes no value further from 0 than this.
        inner = [thing for thing in THINGS if -12 <= thing[2] <= 12]
        dice = random.Random(10)
        whole = list(itertools.product(TIMES, NAMES, range(-60, 61)))
        for row in ONE_FROM_ROWS:
            for box in dice.sample(BOXES, 12) + [ALL]:
                came = {by_row(row, thing) for thing in whole if in_box(box, thing)}
                with self.subTest(row=row, box=box):
                    self.assertThings(row_forth(row, box), [thing for thing in inner if thing in came], inner)

    def test_back(self):
        dice = random.Random(11)
        for row in ONE_FROM_ROWS:
            turned = [(thing, by_row(row, thing)) for thing in THINGS]
            for box in dice.sample(BOXES, 20) + [ALL]:
                wanted = [thing for thing, came in turned if came is not None and in_box(box, came)]
                with self.subTest(row=row, box=box):
                    self.assertThings(row_back(row, box), wanted)

    def test_forth_and_back_of_each_word(self):
        box = (("only", ("a", "b")), 2, 7, (-9, 9, 3, 0))
        for row, forth, back in (
            (("time", "x", ("y",), (5, None)), (box[0], 5, 7, box[3]), (box[0], 5, 7, box[3])),
            (("only", "x", ("y",), ("c", "b")), (("only", ("b",)), 2, 7, box[3]), (("only", ("b",)), 2, 7, box[3])),
            (("but", "x", ("y",), ("c", "b")), (("only", ("a",)), 2, 7, box[3]), (("only", ("a",)), 2, 7, box[3])),
            (("span", "x", ("y",), (-4, None)), (box[0], 2, 7, (-3, 9, 3, 0)), (box[0], 2, 7, (-3, 9, 3, 0))),
            (("rest", "x", ("y",), (2, 1)), (box[0], 2, 7, (-9, 9, 6, 3)), (box[0], 2, 7, (-9, 9, 6, 3))),
            (("turn", "x", ("y",), (-2, 1)), (box[0], 2, 7, (-17, 19, 6, 1)), (box[0], 2, 7, (-4, 5, 3, 2))),
            (("later", "x", ("y",), (3,)), (box[0], 5, 10, box[3]), (box[0], 0, 4, box[3])),
            (("put", "x", ("y",), (("b", "c"),)), (("only", ("a", "c")), 2, 7, box[3]),
             (("only", ("a",)), 2, 7, box[3])),
        ):
            with self.subTest(word=row[0]):
                self.assertEqual(row_forth(row, box), forth)
                self.assertEqual(row_back(row, box), back)

    def test_nothing_comes(self):
        box = (("only", ("a",)), 2, 7, (0, 9, 3, 0))
        for row in (
            ("time", "x", ("y",), (7, None)), ("time", "x", ("y",), (0, 2)), ("only", "x", ("y",), ("b", "c")),
            ("but", "x", ("y",), ("b", "a")), ("span", "x", ("y",), (10, None)), ("span", "x", ("y",), (1, 2)),
            ("rest", "x", ("y",), (3, 1)), ("rest", "x", ("y",), (1000, 999)),
        ):
            with self.subTest(row=row):
                self.assertIsNone(row_forth(row, box))
                self.assertIsNone(row_back(row, box))

    def test_nothing_of_which_one_comes(self):
        box = (("only", ("a",)), 2, 7, (0, 9, 3, 0))
        for row in (
            ("later", "x", ("y",), (7,)), ("later", "x", ("y",), (100,)), ("put", "x", ("y",), (("a", "b"),)),
            ("turn", "x", ("y",), (3, 1)), ("turn", "x", ("y",), (-1000, 100)),
        ):
            with self.subTest(row=row):
                self.assertIsNotNone(row_forth(row, box))
                self.assertIsNone(row_back(row, box))

    def test_the_bounds_of_rows(self):
        great = 999999999999
        self.assertEqual(row_forth(("later", "x", ("y",), (great,)), ALL), (ALL_KEYS, great, None, ALL_VALUES))
        self.assertEqual(row_back(("later", "x", ("y",), (great,)), ALL), ALL)
        forth = row_forth(("turn", "x", ("y",), (-1000, -great)), ALL)
        self.assertEqual(forth, (ALL_KEYS, 0, None, (None, None, 1000, 1)))
        self.assertEqual(row_back(("turn", "x", ("y",), (-1000, -great)), forth), ALL)
        span = row_forth(("span", "x", ("y",), (-great, great)), ALL)
        self.assertEqual(span, (ALL_KEYS, 0, None, (-great, great, 1, 0)))
        keys = ("h", "g", "f", "e", "d", "c", "b", "a")
        self.assertEqual(row_forth(("only", "x", ("y",), keys), ALL)[0], ("only", tuple(sorted(keys))))
        self.assertEqual(row_forth(("but", "x", ("y",), keys), ALL)[0], ("but", tuple(sorted(keys))))


if __name__ == "__main__":
    unittest.main()
