"""Comings that turn cells (point 25, and 24, 3 and 2 for it), held against comings gone through one by one."""

import copy
import itertools
import random
import unittest

from drawn import FAR, FOLD_WORDS, HOWS, SETTLED_THOUGH_OPEN, drawn, mark, some_cells, some_pair, thing, works_of
from latewell.plain import plain_answers
from latewell.turns import cell_turning
from samples import some_comings, still_comings
from walked import cell_answer, marks_of, thing_kept, turned_by


class Told(unittest.TestCase):
    def turning(self, works, comings, window, key="k", ask="q"):
        """The comings that are told, looked at by the words of point 25."""
        kept = copy.deepcopy((works, comings))
        told = cell_turning(works, comings, ask, key, window)
        self.assertEqual((works, comings), kept)
        self.assertIs(type(told), list, (works, comings, key, window))
        self.assertIn(len(told), range(1, 51))
        marks = marks_of(works, comings)
        for coming in told:
            self.assertTrue(thing_kept(works, marks, coming), coming)
        behind = comings + told
        self.assertNotEqual(cell_answer(works, ask, key, window, behind), cell_answer(works, ask, key, window, comings))
        cell = (key, window)
        plain = [dict(plain_answers(works, row)[ask]).get(cell) for row in (comings, behind)]
        self.assertNotEqual(plain[0], plain[1])
        return told

    def settled(self, works, comings, window, key="k", ask="q", end=20, values=range(-5, 6)):
        """That no comings are told, and none of these do anything."""
        self.assertIsNone(cell_turning(works, comings, ask, key, window), (works, comings, key, window))
        pool = still_comings(works, marks_of(works, comings), end, values)
        pool += [coming[:3] + (key,) + coming[4:] for coming in pool if coming[3] == "q"]
        self.assertFalse(turned_by(works, ask, key, window, comings, pool))


class Chains(Told):
    # Each fold with a window, its first and its last time; of gaps those of a session of things at 10 and 13.
    FOLDS = (("fixed f a 5 {}", 2, 10, 14), ("slide f a 5 2 {}", 5, 10, 14), ("ever f a {}", 0, 0, None))
    THERE = [thing(10, 2), thing(13, -1), thing(10, 9, key="m")]

    def test_each_fold_of_an_open_in(self):
        for fold, word in itertools.product([fold[:2] for fold in self.FOLDS] + [("gaps f a 5 {}", 10)], FOLD_WORDS):
            works = works_of("in a * *", fold[0].format(word), "ask q f")
            for comings in ([], self.THERE, self.THERE + [mark(11)]):
                if comings or fold[0] != "gaps f a 5 {}":
                    self.turning(works, comings, fold[1])
            self.settled(works, self.THERE + [("close", "a")], fold[1])

    def test_only_what_is_just_within_the_times_of_a_window(self):
        for fold, window, first, last in self.FOLDS[:2]:
            for word in FOLD_WORDS:
                works = works_of("in a * *", fold.format(word), "ask q f")
                for there in ([], self.THERE):
                    self.assertEqual(self.turning(works, there + [mark(last)], window)[0][2], last)
                    self.settled(works, there + [mark(last + 1)], window)
                works = works_of("in a * *", f"time t a 0 {first + 1}", fold.format(word).replace(" a ", " t "), "ask q f")
                self.assertEqual(self.turning(works, [], window)[0][2], first)
                works = works_of("in a * *", f"time t a 0 {first}", fold.format(word).replace(" a ", " t "), "ask q f")
                self.settled(works, [], window)
                self.settled(works, [thing(first - 1)], window)

    def test_only_what_is_just_at_the_mark(self):
        for word in FOLD_WORDS:
            works = works_of("in a * *", "time t a 0 8", f"ever f t {word}", "ask q f")
            for there in ([], [thing(3, 2), thing(4, -1)]):
                self.assertEqual(self.turning(works, there + [mark(7)], 0)[0][2], 7)
                self.settled(works, there + [mark(8)], 0)

    def test_ever_stays_open(self):
        for word in FOLD_WORDS:
            works = works_of("in a * *", f"ever f a {word}", "ask q f")
            self.assertEqual(self.turning(works, self.THERE + [mark(FAR)], 0)[0][2] >= FAR, True)

    def test_other_keys(self):
        works = works_of("in a * *", "only o a m", "fixed f o 5 count", "ask q f")
        self.settled(works, [thing(3)], 0)
        self.assertEqual(self.turning(works, [thing(3)], 0, key="m")[0][3], "m")
        works = works_of("in a * *", "put p a k m", "fixed f p 5 count", "ask q f")
        self.settled(works, [thing(3)], 0)
        self.assertIn(self.turning(works, [thing(3)], 0, key="m")[0][3], ("k", "m"))
        works = works_of("in a * *", "but n a m", "put p n k m", "fixed f p 5 count", "ask q f")
        self.assertEqual(self.turning(works, [], 0, key="m")[0][3], "k")

    def test_windows_of_a_slide_below_0(self):
        works = works_of("in a * *", "slide f a 5 2 count", "ask q f")
        self.assertEqual(self.turning(works, [mark(0)], -2)[0][2], 0)
        self.settled(works, [mark(1)], -2)
        self.assertEqual(self.turning(works, [mark(2)], -1)[0][2], 2)
        self.settled(works, [mark(3)], -1)

    def test_great_numbers(self):
        works = works_of("in a * *", "later l a 999999999999", "turn t l -1000 7", "fixed f t 3 most", "ask q f")
        there = [thing(3 * FAR, -FAR), mark(3 * FAR + 2)]
        window = (3 * FAR + 999999999999) // 3
        told = self.turning(works, there, window)
        self.assertEqual(told[0][2], 3 * FAR + 2)
        self.assertLess(told[0][4], -FAR)
        self.settled(works, there + [mark(3 * FAR + 3)], window)

    def test_whatever_stands_between(self):
        rows = ["in a -9 9", "rest i a 2 0", "rest j a 2 1", "turn u j -3 1", "later l i 4", "pour p u l", "but n p m",
                "span s n -8 8", "put x s c k k c", "time y x 3 *"]
        for word in FOLD_WORDS:
            works = works_of(*rows, f"fixed f y 5 {word}", "ask q f")
            for comings in ([], [mark(4)], [thing(2, 4, key="c")], [mark(4), thing(4, 1, key="c")]):
                self.turning(works, comings, 0)
            for comings in ([mark(5)], [thing(0, 4, key="c"), thing(3, -1, key="c"), mark(5)]):
                self.settled(works, comings, 0, values=range(-9, 10))

    def test_several_ins(self):
        works = works_of("in a 0 3", "in b 2 9", "in c 5 5", "pour p a b", "fixed f p 5 most", "ask q f")
        self.assertEqual(self.turning(works, [thing(2, 3)], 0)[0][1], "b")
        self.assertEqual(self.turning(works, [("close", "b"), thing(2, 2)], 0), [thing(0, 3)])
        self.settled(works, [thing(2, 3), ("close", "b")], 0)
        self.settled(works, [thing(2, 9, "b")], 0, values=range(0, 10))
        self.assertEqual(self.turning(works, [("close", "a"), mark(4, "b"), thing(4, 8, "b")], 0), [thing(4, 9, "b")])


class Values(Told):
    def test_a_sum_turns_by_no_0(self):
        for there, wanted in (([], 0), ([thing(2, 0)], None), ([thing(2, 0), thing(3, 0)], None)):
            for fold in ("fixed f a 5 sum", "slide f a 5 3 sum", "ever f a sum"):
                works = works_of("in a 0 0", fold, "ask q f")
                if wanted is None:
                    self.settled(works, there, 0)
                else:
                    self.assertEqual(self.turning(works, there, 0)[0][4], wanted)
        for low, high, value in ((0, 1, 1), (-1, 0, -1), (-7, 7, None), (0, 999, None)):
            works = works_of(f"in a {low} {high}", "ever f a sum", "ask q f")
            told = self.turning(works, [thing(2, 0)], 0)[0][4]
            self.assertIn(told, range(low, high + 1) if value is None else (value,))
        works = works_of("in a 0 *", "rest r a 7 0", "span s r * 12", "ever f s sum", "ask q f")
        self.assertEqual(self.turning(works, [thing(2, 0)], 0)[0][4], 7)

    def test_a_sum_whose_values_even_out(self):
        works = works_of("in a -1 1", "ever f a sum", "ask q f")
        self.turning(works, [thing(2, 1), thing(3, -1)], 0)
        self.turning(works, [thing(2, 1), thing(3, 1)], 0)

    def test_most_and_least_of_values_with_a_bound(self):
        for word, bound, ahead in (("most", 5, 4), ("least", -5, -4)):
            works = works_of("in a -5 5", f"fixed f a 5 {word}", "ask q f")
            self.assertEqual(self.turning(works, [thing(0, ahead)], 0)[0][4], bound)
            self.settled(works, [thing(0, bound)], 0)
            self.settled(works, [thing(0, bound), thing(0, ahead)], 0)
            # In another cell the bound is none yet.
            self.turning(works, [thing(5, bound)], 0)
            self.turning(works, [thing(0, bound)], 0, key="m")

    def test_most_and_least_of_values_with_a_rest(self):
        works = works_of("in a * *", "rest r a 10 3", "span s r -20 20", "fixed f s 5 most", "ask q f",
                         "fixed g s 5 least", "ask p g")
        self.assertEqual(self.turning(works, [thing(0, 3)], 0)[0][4], 13)
        self.settled(works, [thing(0, 13)], 0)
        self.assertEqual(self.turning(works, [thing(0, -7)], 0, ask="p")[0][4], -17)
        self.settled(works, [thing(0, -17)], 0, ask="p")

    def test_counts(self):
        works = works_of("in a 7 7", "ever f a count", "ask q f")
        for count in (0, 1, 2, 49, 50, 60):
            self.assertEqual(self.turning(works, [thing(0, 7)] * count, 0), [thing(0, 7)])

    def test_counts_with_bounds(self):
        for low, high in ((1, 1), (1, "*"), (2, 2), (3, 7), (49, 50), (50, 50), (50, "*"), (50, 60)):
            for fold in ("fixed f a 5 count", "slide f a 5 2 count", "ever f a count"):
                works = works_of("in a 7 7", fold, f"ask q f {low} {high}")
                for count in {0, 1, low - 1, low, low + 1, 50 if high == "*" else high}:
                    if high == "*" or count <= high:
                        told = self.turning(works, [thing(3, 7)] * count + [thing(3, 7, key="m")] * 3 + [mark(4)], 0)
                        self.assertEqual(told, [thing(4, 7)] * max(1, low - count))
                if high != "*":
                    self.settled(works, [thing(3, 7)] * (high + 1), 0, end=5, values=(7,))

    def test_each_low_to_fifty(self):
        for low in range(1, 51):
            works = works_of("in a * *", "fixed f a 5 count", f"ask q f {low} {low}")
            self.assertEqual(len(self.turning(works, [], 1)), low)
            self.assertEqual(len(self.turning(works, [thing(9)] * (low // 2), 1)), low - low // 2)

    def test_counts_of_other_cells_do_not_count(self):
        works = works_of("in a * *", "fixed f a 5 count", "ask q f 50 50")
        there = [thing(4)] * 30 + [thing(10)] * 30 + [thing(5, key="m")] * 60
        self.assertEqual(len(self.turning(works, there, 1)), 50)
        self.assertEqual(len(self.turning(works, there + [thing(5)] * 20, 1)), 30)

    def test_most_with_bounds(self):
        for there, wanted in (([], (0, 5)), ([-3], (0, 5)), ([2], (3, 9)), ([5], (6, 9)), ([0, -3], (1, 9)), ([6], None),
                              ([2, 9], None)):
            self.bounded("most", "0 5", there, wanted)
        self.bounded("most", "* 5", [], (-9, 5))
        self.bounded("most", "* 5", [6], None)
        self.bounded("most", "0 *", [], (0, 9))
        self.bounded("most", "0 *", [9], None)
        self.bounded("most", "10 *", [], None)
        self.bounded("most", "9 *", [8], (9, 9))
        self.bounded("most", "* -9", [], (-9, -9))
        self.bounded("most", "* -10", [], None)
        self.bounded("most", "* *", [8], (9, 9))

    def test_least_with_bounds(self):
        for there, wanted in (([], (0, 5)), ([8], (0, 5)), ([2], (-9, 1)), ([0], (-9, -1)), ([5, 8], (-9, 4)), ([-1], None),
                              ([2, -9], None)):
            self.bounded("least", "0 5", there, wanted)
        self.bounded("least", "0 *", [], (0, 9))
        self.bounded("least", "0 *", [-1], None)
        self.bounded("least", "* 5", [], (-9, 5))
        self.bounded("least", "* 5", [-9], None)
        self.bounded("least", "* -9", [-8], (-9, -9))
        self.bounded("least", "* *", [-8], (-9, -9))

    def bounded(self, word, bounds, there, wanted):
        """What turns cells of values from -9 to 9 with these there: a value from the first to the last one wanted."""
        for fold in ("fixed f a 5", "slide f a 5 2", "ever f a"):
            works = works_of("in a -9 9", f"{fold} {word}", f"ask q f {bounds}")
            comings = [thing(3, value) for value in there]
            if wanted is None:
                self.settled(works, comings, 0, end=6, values=range(-9, 10))
            else:
                told = self.turning(works, comings, 0)
                self.assertEqual(len(told), 1)
                self.assertIn(told[0][4], range(wanted[0], wanted[1] + 1))


class Sessions(Told):
    THERE = [thing(10, 2), thing(13, 5), thing(30, 1)]

    def works(self, word="count", values="* *"):
        return works_of(f"in a {values}", f"gaps f a 5 {word}", "ask q f")

    def test_gap_less_one_behind(self):
        for word in FOLD_WORDS:
            works = self.works(word, "0 0")
            self.assertEqual(self.turning(works, [thing(10, 0), thing(13, 0), mark(17)], 10), [thing(17, 0)])
            self.settled(works, [thing(10, 0), thing(13, 0), mark(18)], 10)

    def test_only_shortly_ahead(self):
        # What has come is within the session of 10 to 13, and all that can still come is ahead of it.
        there = [thing(10, 0, "b"), thing(13, 0, "b"), ("close", "b")]
        for word in ("count", "most", "least", "sum"):
            rows = ["in a 0 0", "in b 0 0", "time t a 0 {}", "pour p t b", f"gaps f p 5 {word}", "ask q f"]
            for end in (7, 8, 10):
                works = works_of(*[row.format(end) for row in rows])
                self.assertIn(self.turning(works, there, 10)[0][2], range(6, end))
            self.settled(works_of(*[row.format(6) for row in rows]), there, 10)
        # From 10 to 13 a 0 turns no sum.
        rows[2] = "time t a 10 {}"
        self.settled(works_of(*[row.format(14) for row in rows]), there, 10)
        self.assertEqual(self.turning(works_of(*[row.format(15) for row in rows]), there, 10), [thing(14, 0)])

    def test_within(self):
        for word, low, high, turning in (("sum", 0, 1, 1), ("most", 0, 6, 6), ("least", 1, 9, 1), ("sum", -1, 0, -1)):
            works = works_of(f"in a {low} {high}", "in b * *", "time t a 10 14", "pour p t b", f"gaps f p 5 {word}", "ask q f")
            there = [thing(10, 2, "b"), thing(13, 5, "b"), ("close", "b")]
            told = self.turning(works, there, 10)
            self.assertEqual(told, [thing(told[0][2], turning)])
            self.assertIn(told[0][2], range(10, 14))
            self.settled(works, there + [mark(14)], 10)
        for word, low, high in (("sum", 0, 0), ("most", 0, 5), ("least", 2, 9)):
            works = works_of(f"in a {low} {high}", "in b * *", "time t a 10 14", "pour p t b", f"gaps f p 5 {word}", "ask q f")
            self.settled(works, [thing(10, 2, "b"), thing(13, 5, "b"), ("close", "b")], 10)

    def test_a_session_that_can_still_begin(self):
        works = self.works()
        self.assertEqual(self.turning(works, [mark(20)], 20)[0][2], 20)
        self.settled(works, [mark(21)], 20, end=26)
        self.assertEqual(self.turning(works, [thing(15), mark(20)], 20)[0][2], 20)
        self.settled(works, [thing(16)], 20, end=26)
        self.settled(works, [thing(19)], 20, end=26)
        self.assertEqual(self.turning(works, [thing(21), mark(20)], 20)[0][2], 20)

    def test_windows_within_a_session(self):
        works = self.works()
        for window in (11, 13, 14, 17):
            self.settled(works, self.THERE, window)
        self.turning(works, self.THERE, 18)
        self.turning(works, self.THERE, 9)

    def test_a_session_that_another_one_took_in(self):
        works = self.works()
        self.turning(works, [thing(10), thing(20)], 20)
        self.settled(works, [thing(10), thing(14), thing(18), thing(20)], 20)


class Pairs(Told):
    def works(self, how="sum", fold="fixed f p 5 count", reach=3, values=("* *", "* *")):
        return works_of(f"in a {values[0]}", f"in b {values[1]}", f"pair p a b {reach} {how}", fold, "ask q f")

    def test_by_two_that_pair_with_one_another(self):
        for how, word in itertools.product(HOWS, ("count", "most", "least")):
            for fold in ("fixed f p 5", "slide f p 5 2", "ever f p"):
                works = self.works(how, f"{fold} {word}")
                for comings in ([], [thing(2)], [thing(2), thing(20, 1, "b")], [thing(3, 1), thing(3, 1, "b")]):
                    told = self.turning(works, comings, 0)
                    self.assertIn(len(told), (1, 2))
                told = self.turning(works, [], 0)
                self.assertEqual(sorted(coming[1] for coming in told), ["a", "b"])

    def test_two_values_that_only_together_turn(self):
        # 3 and 4 are there; 8 is the greatest sum that can come, by the greatest of both.
        works = self.works("sum", "ever f p most", 0, ("0 4", "0 4"))
        told = self.turning(works, [thing(9, 3), thing(9, 4, "b")], 0)
        self.assertEqual(sorted(coming[4] for coming in told), [4] if len(told) == 1 else [4, 4])
        there = [thing(9, 4), thing(9, 4, "b")]
        self.settled(works, there, 0, end=11)
        works = self.works("less", "ever f p least", 0, ("0 4", "0 4"))
        told = self.turning(works, [thing(9, 0), thing(8, 4, "b"), thing(9, 3, "b"), mark(10), mark(10, "b")], 0)
        self.assertEqual(sorted(told), [thing(told[0][2], 0), thing(told[0][2], 4, "b")])
        self.settled(works, [thing(9, 0), thing(9, 4, "b")], 0, end=11)

    def test_two_values_at_their_ends(self):
        behind = [mark(10), mark(10, "b")]
        for how, word, one, other in (
            ("sum", "most", 5, 7), ("sum", "least", -4, -6), ("less", "most", 5, -6), ("less", "least", -4, 7),
        ):
            works = self.works(how, f"ever f p {word}", 3, ("-4 5", "-6 7"))
            ahead = other - 1 if other > 0 else other + 1
            told = self.turning(works, [thing(2, one), thing(2, ahead, "b")] + behind, 0)
            self.assertEqual(sorted((coming[1], coming[4]) for coming in told), [("a", one), ("b", other)])
            self.settled(works, [thing(2, one), thing(2, other, "b")] + behind, 0, end=13, values=(-6, -5, -4, -3, 0, 4, 5, 6, 7))

    def test_by_one_that_pairs_with_a_thing_that_is_there(self):
        for how, word in itertools.product(HOWS, ("count", "most", "least")):
            works = self.works(how, f"fixed f p 5 {word}")
            told = self.turning(works, [thing(6, 2), ("close", "a")], 1)
            self.assertEqual([coming[1] for coming in told], ["b"])
            self.assertIn(told[0][2], range(3, 10))
            told = self.turning(works, [thing(6, 2, "b"), ("close", "b")], 1)
            self.assertEqual([coming[1] for coming in told], ["a"])
            self.assertIn(told[0][2], range(3, 10))
            self.settled(works, [("close", "a")], 1)
            self.settled(works, [thing(6, 2, "b"), ("close", "a")], 1)
            self.settled(works, [thing(6, 2, key="m"), ("close", "a")], 1)
            self.settled(works, [thing(6, 2), thing(6, 2, "b"), ("close", "a"), ("close", "b")], 1)

    def test_just_at_reach(self):
        for how in HOWS:
            works = self.works(how, "ever f p count")
            told = self.turning(works, [thing(6), ("close", "a"), mark(9, "b")], 0)
            self.assertEqual([coming[1:3] for coming in told], [("b", 9)])
            self.settled(works, [thing(6), ("close", "a"), mark(10, "b")], 0)
            ahead = works_of("in a * *", "in b * *", "time t b 0 4", f"pair p a t 3 {how}", "ever f p count", "ask q f")
            self.assertEqual(self.turning(ahead, [thing(6), ("close", "a")], 0)[0][1:3], ("b", 3))
            self.settled(ahead, [thing(7), ("close", "a")], 0)

    def test_two_boxes_just_at_reach(self):
        rows = ["in a * *", "in b * *", "time s a 0 5", "time t b {} *", "pair p s t 3 left", "ever f p count", "ask q f"]
        told = self.turning(works_of(*[row.format(7) for row in rows]), [], 0)
        self.assertEqual(sorted(coming[1:3] for coming in told), [("a", 4), ("b", 7)])
        self.settled(works_of(*[row.format(8) for row in rows]), [], 0)
        rows[4] = "pair p t s 3 left"
        told = self.turning(works_of(*[row.format(7) for row in rows]), [], 0)
        self.assertEqual(sorted(coming[1:3] for coming in told), [("a", 4), ("b", 7)])
        self.settled(works_of(*[row.format(8) for row in rows]), [], 0)

    def test_just_within_the_window(self):
        works = self.works(fold="fixed f p 5 count", reach=2)
        # The later time of both is the pair's.
        told = self.turning(works, [thing(3), ("close", "a")], 1)
        self.assertEqual(told[0][1:3], ("b", 5))
        self.settled(works, [thing(2), ("close", "a")], 1)
        told = self.turning(works, [thing(3), ("close", "a"), mark(4, "b")], 0)
        self.assertEqual(told[0][1:3], ("b", 4))
        self.settled(works, [thing(3), ("close", "a"), mark(5, "b")], 0)
        self.settled(works, [thing(10), ("close", "a")], 1)
        told = self.turning(works, [mark(9), mark(9, "b")], 1)
        self.assertEqual(sorted(coming[1:3] for coming in told), [("a", 9), ("b", 9)])
        self.settled(works, [mark(10)], 1)
        told = self.turning(works, [mark(9)], 1)
        self.assertEqual([coming[2] for coming in sorted(told)][0], 9)

    def test_values_just_within_a_bound(self):
        for how, word, side, there, wanted in (
            ("sum", "most", "b", 4, 5), ("sum", "least", "b", -4, -5), ("less", "most", "b", -4, -5),
            ("less", "least", "b", 4, 5), ("right", "most", "b", 4, 5), ("right", "least", "b", -4, -5),
            ("sum", "most", "a", 4, 5), ("less", "most", "a", 4, 5), ("less", "least", "a", -4, -5),
            ("left", "most", "a", 4, 5), ("left", "least", "a", -4, -5),
        ):
            works = self.works(how, f"ever f p {word}", 3, ("-5 5", "-5 5"))
            other = "b" if side == "a" else "a"
            comings = [thing(6, 1, other), ("close", other)]
            told = self.turning(works, comings + [thing(6, there, side)], 0)
            self.assertEqual([(coming[1], coming[4]) for coming in told], [(side, wanted)])
            self.settled(works, comings + [thing(6, wanted, side)], 0, end=11)

    def test_values_that_never_turn(self):
        works = self.works("left", "ever f p most")
        self.settled(works, [thing(6, 3), thing(6, 0, "b"), ("close", "a")], 0)
        works = self.works("right", "ever f p most")
        self.settled(works, [thing(6, 3), thing(6, 0, "b"), ("close", "b")], 0)
        # One that pairs with nothing that is there is no value yet.
        works = self.works("left", "ever f p most", 0)
        self.turning(works, [thing(6, 3), thing(5, 9), thing(6, 0, "b"), ("close", "a")], 0)
        self.settled(works, [thing(6, 3), thing(5, 9), thing(6, 0, "b"), ("close", "a"), mark(6, "b")], 0)

    def test_values_with_rests(self):
        rows = ("in a * 20", "in b -20 *", "rest r a 7 3", "rest s b 5 1", "pair p r s 0 less")
        works = works_of(*rows, "fixed f p 5 most", "ask q f")
        self.turning(works, [thing(1, 17), thing(1, -14, "b")], 0)
        self.settled(works, [thing(1, 17), thing(1, -19, "b")], 0)
        works = works_of(*rows, "fixed f p 5 least", "ask q f")
        self.turning(works, [thing(1, -4 - 7 * FAR), thing(1, 5 * FAR + 1, "b")], 0)

    def test_one_row_on_both_sides(self):
        for word, there in (("count", []), ("count", [thing(6)]), ("most", [thing(6, 3)]), ("least", [thing(6, 3)])):
            works = works_of("in a -9 9", "in b 0 0", "pair p a a 0 sum", f"ever f p {word}", "ask q f")
            self.turning(works, there, 0)
        works = works_of("in a -9 9", "pair p a a 0 sum", "ever f p most", "ask q f")
        self.settled(works, [thing(6, 9)], 0, end=8, values=range(-9, 10))
        self.turning(works, [thing(6, 8)], 0)
        works = works_of("in a -9 9", "pair p a a 2 less", "fixed f p 5 most", "ask q f")
        self.settled(works, [thing(1, 9), thing(3, -9)], 0, end=6, values=(-9, -8, 0, 8, 9))
        self.turning(works, [thing(1, 9), thing(4, -9)], 0)

    def test_both_sides_on_one_in(self):
        works = works_of("in a 0 5", "later l a 4", "turn t a -1 0", "pair p l t 2 sum", "fixed f p 5 most", "ask q f")
        # A thing at 4 comes left at 8 and right at 4.
        told = self.turning(works, [], 1)
        self.assertIn(len(told), (1, 2))
        self.turning(works, [thing(1, 5), thing(4, 1)], 1)
        self.settled(works, [thing(2, 5), thing(5, 0)], 1, values=range(0, 6), end=11)
        self.settled(works, [mark(10)], 1)
        # What comes to the left from 8 on pairs with what comes right, from 8 on, at 8 or 9.
        self.settled(works, [mark(8)], 1, values=range(0, 6), end=14)
        self.turning(works, [mark(5)], 1)
        self.settled(works, [mark(6)], 1, values=range(0, 6), end=14)

    def test_other_keys(self):
        works = works_of("in a * *", "in b * *", "only o b m", "pair p a o 3 sum", "ever f p count", "ask q f")
        self.settled(works, [thing(6)], 0, end=10, values=(0,))
        self.turning(works, [thing(6)], 0, key="m")
        works = works_of("in a * *", "in b * *", "put o b m k k m", "pair p a o 3 sum", "ever f p count", "ask q f")
        told = self.turning(works, [thing(6), ("close", "a")], 0)
        self.assertEqual(told[0][3], "m")


class Settled(Told):
    """Cells that are settled though their ins are open."""

    def test_settled_though_open(self):
        for rows, comings, window in SETTLED_THOUGH_OPEN:
            self.settled(works_of(*rows), comings, window)

    def test_it_stays_so(self):
        dice = random.Random(91)
        seen = 0
        for works, comings in drawn(dice, 120):
            marks = marks_of(works, comings)
            later = comings + some_comings(dice, works, dice.randint(1, 12), marks)
            for ask, key, window in some_cells(dice, works, comings):
                if cell_turning(works, comings, ask, key, window) is None:
                    seen += 1
                    self.assertIsNone(cell_turning(works, later, ask, key, window))
                    self.assertEqual(cell_answer(works, ask, key, window, later), cell_answer(works, ask, key, window, comings))
        self.assertGreater(seen, 150)


class Drawn(Told):
    def test_drawn_works(self):
        dice = random.Random(92)
        told = {True: 0, False: 0}
        for works, comings in drawn(dice, 400):
            for ask, key, window in some_cells(dice, works, comings):
                settled = cell_turning(works, comings, ask, key, window) is None
                told[settled] += 1
                if settled:
                    self.settled(works, comings, window, key, ask, end=24)
                else:
                    self.turning(works, comings, window, key, ask)
        self.assertGreater(min(told.values()), 250)

    def test_small_works(self):
        """All comings of a small works that can matter, one by one and two by two."""
        told = {True: 0, False: 0}
        for how, word in itertools.product(HOWS, ("count", "most", "least")):
            works = works_of("in a 0 1", "in b 0 1", f"pair p a b 1 {how}", f"fixed f p 3 {word}", "ask q f")
            dice = random.Random(f"{how} {word}")
            for marks in itertools.product(range(2, 7), repeat=2):
                comings = [thing(dice.randint(1, 5), dice.randint(0, 1), dice.choice("ab")) for _ in range(dice.randint(0, 3))]
                comings += [mark(marks[0]), mark(marks[1], "b")]
                pool = [thing(time, value, name) for name, begin in zip("ab", marks) for time in range(begin, 8) for value in (0, 1)]
                settled = not turned_by(works, "q", "k", 1, comings, pool)
                self.assertEqual(cell_turning(works, comings, "q", "k", 1) is None, settled, (works, comings))
                told[settled] += 1
        self.assertGreater(min(told.values()), 80)

    def test_the_order_of_comings(self):
        dice = random.Random(104)
        for works, comings in drawn(dice, 60):
            marks = marks_of(works, comings)
            things = [coming for coming in comings if coming[0] == "thing"]
            dice.shuffle(things)
            other = things + [("close", name) if time is None else mark(time, name) for name, time in marks.items()]
            for ask, key, window in some_cells(dice, works, comings):
                settled = [cell_turning(works, row, ask, key, window) is None for row in (comings, other)]
                self.assertIs(settled[0], settled[1])

    def test_pairs_of_one_in(self):
        dice = random.Random(93)
        told = {True: 0, False: 0}
        for _ in range(150):
            works, comings, window = some_pair(dice)
            settled = cell_turning(works, comings, "q", "k", window) is None
            told[settled] += 1
            if settled:
                self.settled(works, comings, window, end=16, values=range(-2, 3))
            else:
                self.turning(works, comings, window)
        self.assertGreater(min(told.values()), 30)


class Own(Told):
    def test_what_is_told_is_the_askers_own(self):
        for rows in (("ever f a count", "ask q f 50 *"), ("pair p a a 0 sum", "ever f p count", "ask q f")):
            works = works_of("in a * *", *rows)
            told = cell_turning(works, [], "q", "k", 0)
            kept = list(told)
            told.clear()
            self.assertEqual(cell_turning(works, [], "q", "k", 0), kept)

    def test_comings_told_and_come_again(self):
        works = works_of("in a -2 2", "ever f a most", "ask q f 0 1")
        comings = []
        while cell_turning(works, comings, "q", "k", 0) is not None:
            comings = comings + self.turning(works, comings, 0)
            self.assertLess(len(comings), 5)
        self.assertEqual(cell_answer(works, "q", "k", 0, comings), None)


if __name__ == "__main__":
    unittest.main()
