"""What can still come (point 21, and 2 for it), held against all comings that keep the marks."""

import copy
import random
import unittest

from latewell.comings import first_marks
from latewell.forth import forth_boxes
from latewell.works import read_works
from samples import IN_BOUNDS, SMALL_BOUNDS, some_chains, some_marks, some_names, some_works, still_comings, things_about
from walked import all_brought, chains_of, in_box

ALL_KEYS = ("but", ())
ALL_VALUES = (None, None, 1, 0)


class Ins(unittest.TestCase):
    def test_open_at_its_mark(self):
        works = read_works("in a * *\nin b -5 9\nin c 3 *\nin d * 0\nin e 7 7")
        told = forth_boxes(works, {"a": 0, "b": 4, "c": 1, "d": 10 ** 200, "e": 2})
        self.assertEqual(told, {
            "a": [(ALL_KEYS, 0, None, ALL_VALUES)],
            "b": [(ALL_KEYS, 4, None, (-5, 9, 1, 0))],
            "c": [(ALL_KEYS, 1, None, (3, None, 1, 0))],
            "d": [(ALL_KEYS, 10 ** 200, None, (None, 0, 1, 0))],
            "e": [(ALL_KEYS, 2, None, (7, 7, 1, 0))],
        })

    def test_closed(self):
        works = read_works("in a * *\nin b * *\nspan s a 1 2\npour p s b\nlater l a 5\never e l count\nask q e")
        self.assertEqual(forth_boxes(works, {"a": None, "b": None}), {"a": [], "b": [], "s": [], "p": [], "l": []})
        box = (ALL_KEYS, 6, None, ALL_VALUES)
        self.assertEqual(forth_boxes(works, {"a": None, "b": 6}), {"a": [], "b": [box], "s": [], "p": [box], "l": []})

    def test_the_first_marks(self):
        works = read_works("in a 0 5\nin b * *")
        told = forth_boxes(works, first_marks(works))
        self.assertEqual(told, {"a": [(ALL_KEYS, 0, None, (0, 5, 1, 0))], "b": [(ALL_KEYS, 0, None, ALL_VALUES)]})


class Rows(unittest.TestCase):
    def told(self, *rows, marks=None):
        """The boxes of the last row, below which an in a stands with a mark of 6 and values from -4 to 20."""
        works = read_works("\n".join(("in a -4 20", "in b * *") + rows))
        return forth_boxes(works, marks or {"a": 6, "b": 3})[works[-1][1]]

    def test_each_word(self):
        values = (-4, 20, 1, 0)
        for row, wanted in (
            ("time x a 2 9", (ALL_KEYS, 6, 9, values)), ("time x a 7 *", (ALL_KEYS, 7, None, values)),
            ("time x a 0 7", (ALL_KEYS, 6, 7, values)), ("only x a k b", (("only", ("b", "k")), 6, None, values)),
            ("but x a k b", (("but", ("b", "k")), 6, None, values)), ("span x a 0 *", (ALL_KEYS, 6, None, (0, 20, 1, 0))),
            ("span x a * -4", (ALL_KEYS, 6, None, (-4, -4, 1, 0))), ("rest x a 5 3", (ALL_KEYS, 6, None, (-2, 18, 5, 3))),
            ("turn x a -2 1", (ALL_KEYS, 6, None, (-39, 9, 2, 1))), ("later x a 9", (ALL_KEYS, 15, None, values)),
            ("later x a 0", (ALL_KEYS, 6, None, values)), ("put x a k b", (("but", ("k",)), 6, None, values)),
        ):
            self.assertEqual(self.told(row), [wanted], row)

    def test_nothing_comes(self):
        for rows in (
            ("time x a 0 6",), ("time x a 2 3",), ("span x a 21 *",), ("span x a * -5",), ("turn t a 2 0", "rest x t 2 1"),
            ("put p a k b", "only x p k"), ("only o a k", "but x o b k"), ("later l a 3", "time x l 0 9"),
            ("time t a 8 9", "time x t 9 *"),
        ):
            self.assertEqual(self.told(*rows), [], rows)

    def test_a_row_behind_one_to_which_nothing_comes(self):
        for row in ("time y x 0 *", "only y x k", "but y x k", "span y x * *", "turn y x 2 1", "later y x 3", "put y x k b"):
            self.assertEqual(self.told("time x a 0 6", row), [])

    def test_a_mark_past_the_times(self):
        for mark, wanted in ((5, [5]), (8, [8]), (9, []), (10, []), (None, [])):
            told = self.told("time x a 2 9", marks={"a": mark, "b": 0})
            self.assertEqual([box[1] for box in told], wanted)

    def test_through_several_rows(self):
        told = self.told("turn t a 3 0", "put p t k b", "later l p 4", "rest r l 2 0", "only o r b k", "time x o 0 12")
        self.assertEqual(told, [(("only", ("b",)), 10, 12, (-12, 60, 6, 0))])

    def test_a_pour_in_the_order_of_its_froms(self):
        one, other = (ALL_KEYS, 6, None, (-4, 20, 1, 0)), (ALL_KEYS, 3, None, ALL_VALUES)
        self.assertEqual(self.told("pour x a b"), [one, other])
        self.assertEqual(self.told("pour x b a"), [other, one])

    def test_a_pour_of_more_froms(self):
        rows = ("only i a k", "only j a l", "only k a m", "time o k 0 6", "pour x k b j o i")
        values = (-4, 20, 1, 0)
        self.assertEqual(self.told(*rows), [
            (("only", ("m",)), 6, None, values), (ALL_KEYS, 3, None, ALL_VALUES),
            (("only", ("l",)), 6, None, values), (("only", ("k",)), 6, None, values),
        ])
        names = "cdefghij"
        works = read_works("\n".join(f"in {name} {number} {number}" for number, name in enumerate(names))
                           + "\npour x " + " ".join(reversed(names)))
        told = forth_boxes(works, {name: number for number, name in enumerate(names)})["x"]
        self.assertEqual(told, [(ALL_KEYS, number, None, (number, number, 1, 0)) for number in range(7, -1, -1)])

    def test_rows_behind_a_pour_keep_the_order(self):
        rows = ("only i a k", "but j a k", "pour p j b i", "turn t p -1 0", "span u t * -1", "in c 5 6", "pour x c u")
        self.assertEqual(self.told(*rows, marks={"a": 6, "b": 3, "c": 1}), [
            (ALL_KEYS, 1, None, (5, 6, 1, 0)), (("but", ("k",)), 6, None, (-20, -1, 1, 0)),
            (ALL_KEYS, 3, None, (None, -1, 1, 0)), (("only", ("k",)), 6, None, (-20, -1, 1, 0)),
        ])

    def test_two_boxes_that_are_alike_stay_two(self):
        told = self.told("span i a -4 0", "span j a 1 5", "turn k j 1 -5", "span l k -4 0", "pour x i l")
        self.assertEqual(told, [(ALL_KEYS, 6, None, (-4, 0, 1, 0))] * 2)

    def test_the_names_are_those_of_the_chains(self):
        dice = random.Random(61)
        for _ in range(50):
            works = some_works(dice)
            self.assertEqual(list(forth_boxes(works, some_marks(dice, works))), chains_of(works))


class Comings(unittest.TestCase):
    def assertBrought(self, dice, bounds, end, values, sure):
        """That the boxes have just what comings bring, of the things with times below end and sure values."""
        works = some_chains(dice, some_names(dice), bounds)[0]
        marks = some_marks(dice, works)
        boxes = forth_boxes(works, marks)
        brought = all_brought(works, still_comings(works, marks, end, values))
        for name, things in brought.items():
            for thing in dice.sample(things, min(len(things), 60)):
                self.assertTrue(any(in_box(box, thing) for box in boxes[name]), (works, marks, name, thing))
            came = set(things)
            about = list(things_about(boxes[name], range(end), sure))
            about += [(dice.randrange(end), dice.choice("abcdq"), dice.choice(sure)) for _ in range(30)]
            for thing in about:
                told = any(in_box(box, thing) for box in boxes[name])
                self.assertEqual(told, thing in came, (works, marks, name, thing))

    def test_ins_with_few_values(self):
        dice = random.Random(62)
        for _ in range(120):
            self.assertBrought(dice, SMALL_BOUNDS, 20, range(-6, 10), range(-2000, 2000))

    def test_ins_without_bounds(self):
        dice = random.Random(63)
        for _ in range(12):
            # Each row moves a value by at most 5 away from what it was.
            self.assertBrought(dice, IN_BOUNDS, 12, range(-70, 71), range(-15, 16))


class Own(unittest.TestCase):
    def test_nothing_handed_in_is_changed(self):
        dice = random.Random(64)
        for _ in range(30):
            works = some_works(dice)
            marks = some_marks(dice, works)
            kept = copy.deepcopy((works, marks))
            forth_boxes(works, marks)
            self.assertEqual((works, marks), kept)

    def test_each_list_is_a_new_one(self):
        works = read_works("in a * *\nspan s a * *\nin b * *\npour p s b\nlater l p 0")
        marks = first_marks(works)
        told = forth_boxes(works, marks)
        kept = copy.deepcopy(told)
        for name in told:
            told[name].append("more")
            self.assertEqual([other for other in told if told[other] != kept[other]], [name])
            told[name].pop()
        told["p"].clear()
        told.pop("a")
        self.assertEqual(forth_boxes(works, marks), kept)

    def test_what_is_done_behind_the_call_changes_nothing(self):
        works = read_works("in a * *\nspan s a 1 2")
        marks = {"a": 4}
        told = forth_boxes(works, marks)
        marks["a"] = None
        works.clear()
        self.assertEqual(told, {"a": [(ALL_KEYS, 4, None, ALL_VALUES)], "s": [(ALL_KEYS, 4, None, (1, 2, 1, 0))]})


if __name__ == "__main__":
    unittest.main()
