"""Whether boxes turn a cell (points 24 and 26, and 2 for them), held against the things of the boxes one by one."""

import copy
import itertools
import random
import unittest

from latewell.cells import boxes_turn, chain_turning
from latewell.errors import NoCell
from latewell.works import read_works
from walked import answer, cell_amount, in_box, paired

ALL_KEYS = ("but", ())
K = ("only", ("k",))
ALL_VALUES = (None, None, 1, 0)
FAR = 10 ** 200


def works_of(fold, ask="ask q f", below=("in a * *",)):
    return read_works("\n".join(below + (fold, ask)))


def box(begin, end, stretch=(1, 1, 1, 0), keys=K):
    return (keys, begin, end, stretch)


def one(value):
    """The stretch of one value."""
    return (value, value, 1, 0)


def at(time, value=1):
    """The box of the one thing of the key k."""
    return box(time, time + 1, one(value))


class Turning(unittest.TestCase):
    def assertTurns(self, works, window, there, turning, staying, key="k"):
        """That each of the first boxes alone turns the cell, and all of the others together don't."""
        for still in turning:
            self.assertIs(boxes_turn(works, "q", key, window, there, [still]), True, still)
            self.assertIs(boxes_turn(works, "q", key, window, there, list(staying) + [still]), True, still)
            self.assertIs(boxes_turn(works, "q", key, window, there, [still] + list(staying)), True, still)
        for still in staying:
            self.assertIs(boxes_turn(works, "q", key, window, there, [still]), False, still)
        self.assertIs(boxes_turn(works, "q", key, window, there, list(staying)), False)


class Windows(Turning):
    def test_the_times_of_a_fixed(self):
        within = [at(5), at(9), box(0, 6), box(9, None), box(0, None), box(6, 7), box(0, FAR)]
        beside = [at(4), at(10), box(0, 5), box(10, None)]
        for there in ([], [(5, "k", 3)], [(4, "k", 1), (10, "k", 1)]):
            self.assertTurns(works_of("fixed f a 5 count"), 1, there, within, beside)
        self.assertTurns(works_of("fixed f a 1 count"), 7, [], [at(7)], [at(6), at(8)])
        self.assertTurns(works_of("fixed f a 999999999999 count"), 0, [], [at(999999999998)], [at(999999999999)])
        self.assertTurns(works_of("fixed f a 5 count"), FAR, [], [at(5 * FAR), at(5 * FAR + 4)], [at(5 * FAR - 1)])

    def test_the_times_of_a_slide(self):
        works = works_of("slide f a 5 2 count")
        self.assertTurns(works, 1, [], [at(2), at(6), box(0, 3), box(6, None)], [at(1), at(7), box(0, 2)])
        self.assertTurns(works, 2, [(3, "k", 1)], [at(4), at(8)], [at(3), at(9)])

    def test_windows_of_a_slide_below_0(self):
        works = works_of("slide f a 5 2 count")
        self.assertTurns(works, 0, [], [at(0), at(4)], [at(5)])
        self.assertTurns(works, -1, [], [at(0), at(2), box(0, None)], [at(3), box(3, None)])
        self.assertTurns(works, -2, [], [at(0)], [at(1), box(1, None)])
        self.assertTurns(works_of("slide f a 20 1 count"), -19, [(1, "k", 5)], [at(0)], [at(1)])

    def test_ever(self):
        works = works_of("ever f a count")
        self.assertTurns(works, 0, [], [at(0), at(FAR), box(5, None)], [])
        self.assertTurns(works, 0, [(3, "k", 1)], [at(0), at(FAR), box(5, None)], [])

    def test_keys(self):
        for fold in ("fixed f a 5 count", "slide f a 5 2 count", "ever f a count", "gaps f a 5 count"):
            with_key = [box(0, 1, one(1), keys) for keys in (K, ("only", ("a", "k", "z")), ("but", ("m",)), ALL_KEYS)]
            without = [box(0, 1, one(1), keys) for keys in (("only", ("kk",)), ("but", ("k",)), ("only", ("a", "z")))]
            self.assertTurns(works_of(fold), 0, [], with_key, without)
            self.assertTurns(works_of(fold), 0, [(0, "k", 1)], with_key, without)

    def test_things_of_other_cells_are_not_there(self):
        for fold, window in (("fixed f a 5 sum", 1), ("slide f a 5 1 sum", 5), ("ever f a sum", 0)):
            there = [(5, "m", 1), (5, "kk", 2)] + ([] if window == 0 else [(4, "k", 1), (10, "k", 1)])
            self.assertTurns(works_of(fold), window, there, [at(5, 0)], [])
            self.assertTurns(works_of(fold), window, there + [(9, "k", 7)], [at(5, 1)], [at(5, 0)])

    def test_count(self):
        for there in ([], [(0, "k", 0)], [(0, "k", 0)] * 60):
            self.assertTurns(works_of("ever f a count"), 0, there, [at(0, 0), at(3, -FAR)], [])

    def test_sum(self):
        works = works_of("ever f a sum")
        self.assertTurns(works, 0, [], [at(0, 0), at(3, 5), box(0, None, ALL_VALUES)], [])
        turning = [at(0, 1), at(0, -1), at(0, FAR)] + [box(0, 9, stretch) for stretch in (
            ALL_VALUES, (0, None, 1, 0), (None, 0, 1, 0), (0, 1, 1, 0), (-1, 0, 1, 0), (0, 9, 3, 0), (None, None, 7, 0),
            (-7, 0, 7, 0), (5, None, 2, 1), (None, -5, 2, 1),
        )]
        for there in ([(0, "k", 0)], [(0, "k", 2), (1, "k", -2)], [(0, "k", 5)]):
            self.assertTurns(works, 0, there, turning, [at(0, 0), box(0, None, one(0)), box(5, 9, one(0), ALL_KEYS)])

    def test_most(self):
        works = works_of("ever f a most")
        self.assertTurns(works, 0, [], [at(0, 0), at(0, -FAR), box(0, None, ALL_VALUES)], [])
        there = [(0, "k", -9), (2, "k", 4), (1, "k", 3)]
        turning = [at(0, 5), at(7, FAR)] + [box(0, 9, stretch) for stretch in (
            ALL_VALUES, (5, None, 1, 0), (None, 5, 1, 0), (-5, 5, 5, 0), (None, None, 100, 4),
        )]
        staying = [at(0, 4), at(0, 3), box(0, None, (None, 4, 1, 0)), box(0, None, (-5, 4, 3, 1))]
        self.assertTurns(works, 0, there, turning, staying)

    def test_least(self):
        works = works_of("ever f a least")
        self.assertTurns(works, 0, [], [at(0, 0), at(0, FAR), box(0, None, ALL_VALUES)], [])
        there = [(0, "k", 9), (2, "k", -4), (1, "k", -3)]
        turning = [at(0, -5), at(7, -FAR)] + [box(0, 9, stretch) for stretch in (
            ALL_VALUES, (None, -5, 1, 0), (-5, None, 1, 0), (-5, 5, 5, 0), (None, None, 100, 96),
        )]
        staying = [at(0, -4), at(0, -3), box(0, None, (-4, None, 1, 0)), box(0, None, (-4, 5, 3, 2))]
        self.assertTurns(works, 0, there, turning, staying)

    def test_no_boxes(self):
        for fold, word in itertools.product(("fixed f a 5", "slide f a 5 2", "ever f a", "gaps f a 5"),
                                            ("count", "sum", "most", "least")):
            for there in ([], [(0, "k", 3)]):
                self.assertIs(boxes_turn(works_of(f"{fold} {word}"), "q", "k", 0, there, []), False)


class Bounds(Turning):
    FOLDS = ("fixed f a 5 {}", "slide f a 5 2 {}", "ever f a {}")

    def assertTold(self, word, bounds, values, turning, staying):
        """What boxes of these values do to a cell with these values, of each fold that bears bounds."""
        for fold in self.FOLDS:
            works = works_of(fold.format(word), f"ask q f {bounds}")
            there = [(4, "k", value) for value in values] + [(0, "m", 1)]
            as_box = [[box(0, 3, stretch if isinstance(stretch, tuple) else one(stretch)) for stretch in stretches]
                      for stretches in (turning, staying)]
            self.assertTurns(works, 0, there, *as_box)

    def test_a_count_that_can_reach_low(self):
        for low in (1, 2, 3, 49, 50):
            for high in (low, low + 1, "*"):
                for count in (0, 1, low - 1):
                    if count < low:
                        self.assertTold("count", f"{low} {high}", [7] * count, [7, 0, ALL_VALUES], [])

    def test_a_count_from_low_to_high(self):
        for low, high in ((1, 1), (2, 5), (50, 50), (3, "*")):
            for count in {low, low + 1 if high == "*" else high}:
                self.assertTold("count", f"{low} {high}", [7] * count, [7, 0, ALL_VALUES], [])

    def test_a_count_that_has_passed_high(self):
        for low, high in ((1, 1), (2, 5), (50, 50)):
            for count in (high + 1, high + 9):
                self.assertTold("count", f"{low} {high}", [7] * count, [], [7, 0, ALL_VALUES])

    def test_most_of_a_cell_without_things(self):
        self.assertTold("most", "0 5", [], [0, 5, 3, ALL_VALUES, (None, 0, 1, 0), (5, None, 1, 0), (-3, 9, 4, 1)],
                        [-1, 6, (None, -1, 1, 0), (6, None, 1, 0), (-1, 6, 7, 6), (None, None, 9, 6)])
        self.assertTold("most", "* 5", [], [5, -FAR, ALL_VALUES], [6, (6, None, 1, 0)])
        self.assertTold("most", "0 *", [], [0, FAR, ALL_VALUES], [-1, (None, -1, 1, 0)])
        self.assertTold("most", "* *", [], [0, FAR, -FAR], [])

    def test_most_below_low(self):
        self.assertTold("most", "0 5", [-3, -8], [0, 5, ALL_VALUES, (-2, 0, 1, 0), (5, 9, 4, 1)],
                        [-9, -3, -2, -1, 6, (None, -1, 1, 0), (6, None, 1, 0), (-1, 6, 7, 6)])
        self.assertTold("most", "0 *", [-3], [0, FAR, ALL_VALUES], [-3, -1, (None, -1, 1, 0)])

    def test_most_from_low_to_high(self):
        self.assertTold("most", "0 5", [2, -8], [3, 5, 6, FAR, ALL_VALUES, (6, None, 1, 0), (-7, 3, 10, 3)],
                        [2, 1, 0, -1, -FAR, (None, 2, 1, 0)])
        self.assertTold("most", "0 5", [5], [6, (5, None, 1, 0)], [5, 0, (None, 5, 1, 0)])
        self.assertTold("most", "0 5", [0], [1, 6], [0, -1])
        self.assertTold("most", "* 5", [-FAR], [1 - FAR, 5, 6, ALL_VALUES], [-FAR])
        self.assertTold("most", "* *", [2], [3, FAR, ALL_VALUES], [2, (None, 2, 1, 0)])

    def test_most_above_high(self):
        self.assertTold("most", "0 5", [6, 3], [], [-1, 0, 3, 5, 6, 7, FAR, ALL_VALUES])
        self.assertTold("most", "* 5", [6, 3], [], [-1, 0, 3, 5, 6, 7, FAR, ALL_VALUES])

    def test_least_of_a_cell_without_things(self):
        self.assertTold("least", "0 5", [], [0, 5, 3, ALL_VALUES, (None, 0, 1, 0), (5, None, 1, 0)],
                        [-1, 6, (None, -1, 1, 0), (6, None, 1, 0), (-1, 6, 7, 6)])
        self.assertTold("least", "* 5", [], [5, -FAR, ALL_VALUES], [6, (6, None, 1, 0)])
        self.assertTold("least", "0 *", [], [0, FAR, ALL_VALUES], [-1, (None, -1, 1, 0)])

    def test_least_above_high(self):
        self.assertTold("least", "0 5", [8, 13], [0, 5, ALL_VALUES, (5, 7, 1, 0), (-4, 0, 4, 0)],
                        [14, 8, 7, 6, -1, (6, None, 1, 0), (None, -1, 1, 0), (-1, 6, 7, 6)])
        self.assertTold("least", "* 5", [8], [5, -FAR, ALL_VALUES], [8, 6, (6, None, 1, 0)])

    def test_least_from_low_to_high(self):
        self.assertTold("least", "0 5", [3, 13], [2, 0, -1, -FAR, ALL_VALUES, (None, -1, 1, 0), (2, 12, 10, 2)],
                        [3, 4, 5, 6, FAR, (3, None, 1, 0)])
        self.assertTold("least", "0 5", [0], [-1, (None, 0, 1, 0)], [0, 5, (0, None, 1, 0)])
        self.assertTold("least", "0 5", [5], [4, -1], [5, 6])

    def test_least_below_low(self):
        self.assertTold("least", "0 5", [-1, 3], [], [-2, -1, 0, 3, 5, 6, -FAR, ALL_VALUES])
        self.assertTold("least", "0 *", [-1, 3], [], [-2, -1, 0, 3, 5, 6, -FAR, ALL_VALUES])

    def test_times_beside_the_cell(self):
        works = works_of("fixed f a 5 most", "ask q f 0 5")
        self.assertTurns(works, 1, [(4, "k", 9), (10, "k", 9)], [at(5, 3), at(9, 3)], [at(4, 3), at(10, 3), at(5, 9)])


class Sessions(Turning):
    THERE = [(10, "k", 2), (13, "k", 5), (25, "k", 0), (11, "m", 0), (7, "m", 0), (40, "k", 1)]

    def test_longer_behind_and_ahead(self):
        # Things at 10 and 13: a session from 10 to 13, whatever the values that come.
        for word in ("count", "sum", "most", "least"):
            turning = [at(time, value) for time in (6, 9, 14, 17) for value in (0, 5, 2, 3)]
            turning += [box(0, 7), box(17, 90), box(0, None), box(14, 15, ALL_VALUES)]
            staying = [at(time, value) for time in (0, 5, 18, 21, 30) for value in (0, 99)] + [box(18, None), box(0, 6)]
            self.assertTurns(works_of(f"gaps f a 5 {word}"), 10, self.THERE, turning, staying)

    def test_within(self):
        for word, turning, staying in (
            ("count", [0, 2, 5], []), ("sum", [1, -1, 5], [0]), ("most", [6, FAR], [5, 4, 2, -9]),
            ("least", [1, -FAR], [2, 3, 5, 9]),
        ):
            for time in (10, 11, 13):
                self.assertTurns(works_of(f"gaps f a 5 {word}"), 10, self.THERE, [at(time, value) for value in turning],
                                 [at(time, value) for value in staying])

    def test_values_within_and_beyond(self):
        # Of one box only the times behind the last one, or ahead of the first one, turn it.
        works = works_of("gaps f a 5 sum")
        self.assertTurns(works, 10, self.THERE, [box(10, 15, one(0)), box(9, 14, one(0))], [box(10, 14, one(0))])

    def test_joined(self):
        there = [(10, "k", 2), (17, "k", 3)]
        works = works_of("gaps f a 5 count")
        self.assertTurns(works, 10, there, [at(13), at(14), at(6), at(10)], [at(15), at(17), at(5), at(16), at(99)])
        self.assertTurns(works, 17, there, [at(13), at(16), at(17), at(21)], [at(12), at(10), at(22)])

    def test_a_session_that_can_still_begin(self):
        works = works_of("gaps f a 5 sum")
        self.assertTurns(works, 30, self.THERE, [at(30, 0), box(29, 31), box(0, None, ALL_VALUES)],
                         [at(29), at(31), box(0, 30), box(31, None)])
        # 25 is five ahead of 30, and four ahead of 29.
        self.assertTurns(works, 29, self.THERE, [], [at(29), at(28), box(0, None, ALL_VALUES)])
        # A thing shortly behind the window only makes the session longer.
        self.assertTurns(works, 37, self.THERE, [at(37, 0)], [at(36), at(38)])
        self.assertTurns(works, 0, [], [at(0), box(0, None)], [at(1)])
        self.assertTurns(works, FAR, [], [at(FAR), box(0, None)], [at(FAR - 1), box(FAR + 1, None)])

    def test_windows_within_a_session(self):
        works = works_of("gaps f a 5 count")
        for window in (11, 12, 13, 14, 17, 26, 44):
            self.assertTurns(works, window, self.THERE, [], [at(window), box(0, None, ALL_VALUES, ALL_KEYS)])
        for window in (9, 18, 24, 45):
            self.assertTurns(works, window, self.THERE, [at(window)], [at(window - 1), at(window + 1)])

    def test_a_gap_of_one(self):
        works = works_of("gaps f a 1 sum")
        there = [(10, "k", 2), (11, "k", 5)]
        self.assertTurns(works, 10, there, [at(10, 1)], [at(9), at(11), at(12), at(10, 0)])
        self.assertTurns(works, 12, there, [at(12, 0)], [at(11), at(13)])

    def test_at_the_first_time(self):
        works = works_of("gaps f a 5 most")
        self.assertTurns(works, 0, [(0, "k", 4)], [at(0, 5), at(1, 4), at(4, -9)], [at(0, 4), at(5, 9)])
        self.assertTurns(works, 2, [(2, "k", 4)], [at(0, 0), at(1, 0), at(6, 0)], [at(2, 4), at(7, 9)])

    def test_other_keys_are_not_there(self):
        works = works_of("gaps f a 5 count")
        self.assertTurns(works, 11, [(10, "m", 1), (9, "kk", 1)], [at(11)], [at(10), at(12)])
        self.assertTurns(works, 11, [(11, "k", 1), (12, "m", 1)], [at(7), at(15)], [at(16), at(6)])


class Pairs(Turning):
    def works(self, how="sum", fold="fixed f p 5 count", reach=3):
        return works_of(fold, below=("in a * *", "in b * *", f"pair p a b {reach} {how}"))

    def turns(self, works, there, boxes, window=1):
        told = boxes_turn(works, "q", "k", window, there, boxes)
        self.assertIn(told, (True, False))
        # With the sides changed round, all that does not hang on left and right is told the same.
        self.assertIs(boxes_turn(works, "q", "k", window, there[::-1], boxes[::-1]), told)
        return told

    def test_boxes_on_one_side(self):
        for how in ("sum", "less", "left", "right"):
            works = self.works(how)
            for boxes in (([at(6)], []), ([], [at(6)]), ([], []), ([box(0, None, ALL_VALUES, ALL_KEYS)], [])):
                self.assertFalse(self.turns(works, ([], []), boxes))
            self.assertTrue(self.turns(works, ([(6, "k", 1)], []), ([], [at(6)])))
            self.assertTrue(self.turns(works, ([(6, "k", 1)], [(6, "k", 1)]), ([], [at(6)])))
            self.assertTrue(self.turns(works, ([], [(6, "k", 1)]), ([at(6)], [])))
            self.assertFalse(self.turns(works, ([(6, "k", 1)], []), ([at(6)], [])))
            self.assertFalse(self.turns(works, ([(6, "k", 1)], [(6, "k", 1)]), ([], [])))

    def test_the_times_beside_a_thing_that_is_there(self):
        works = self.works()
        for time, turning, staying in (
            (6, (3, 4, 6, 9), (0, 2, 10, 11)), (5, (2, 5, 8), (0, 1, 9, 10)), (9, (6, 9), (5, 10, 12)),
            (4, (5, 7), (0, 1, 4, 8)), (2, (5,), (2, 4, 6)), (1, (), (0, 4, 5)), (10, (), (7, 9, 10, 13)),
        ):
            there = ([(time, "k", 1)], [])
            for other in turning:
                self.assertTrue(self.turns(works, there, ([], [at(other)])), (time, other))
            self.assertFalse(self.turns(works, there, ([], [at(other) for other in staying])), time)

    def test_the_times_of_two_boxes(self):
        works = self.works()
        for left, right, wanted in (
            ((6, 7), (3, 4), True), ((6, 7), (2, 3), False), ((9, 10), (12, 13), False), ((0, 5), (0, 5), False),
            ((0, 5), (5, 6), True), ((0, 3), (5, 6), True), ((0, 2), (5, 6), False), ((0, 3), (6, 90), False),
            ((0, 4), (6, 90), True), ((0, None), (10, None), False), ((10, None), (10, None), False),
            ((0, None), (9, 10), True), ((0, None), (0, None), True), ((9, None), (0, 6), False), ((9, None), (0, 7), True),
            ((0, 1), (0, None), False), ((0, 3), (0, None), True), ((2, 3), (4, 6), True), ((2, 3), (4, 5), False),
        ):
            self.assertIs(self.turns(works, ([], []), ([box(*left)], [box(*right)])), wanted, (left, right))

    def test_a_reach_of_0_and_one_without_end(self):
        near, far = self.works(reach=0), self.works(reach=999999999999)
        self.assertTrue(self.turns(near, ([], []), ([box(5, 8)], [box(7, 10)])))
        self.assertFalse(self.turns(near, ([], []), ([box(5, 7)], [box(7, 10)])))
        self.assertTrue(self.turns(far, ([], []), ([at(0)], [at(9)])))
        self.assertFalse(self.turns(far, ([], []), ([at(4)], [at(4), at(10)])))

    def test_other_folds(self):
        slide = self.works(fold="slide f p 5 2 count")
        self.assertTrue(self.turns(slide, ([], []), ([at(0)], [at(0)]), -2))
        self.assertFalse(self.turns(slide, ([], []), ([at(0)], [at(1)]), -2))
        self.assertTrue(self.turns(slide, ([(1, "k", 1)], []), ([], [at(2)]), 1))
        self.assertFalse(self.turns(slide, ([(1, "k", 1)], []), ([], [at(1)]), 1))
        ever = self.works(fold="ever f p count")
        self.assertTrue(self.turns(ever, ([], []), ([at(FAR)], [at(FAR + 3)]), 0))
        self.assertFalse(self.turns(ever, ([], []), ([at(FAR)], [at(FAR + 4)]), 0))
        self.assertTrue(self.turns(ever, ([], []), ([box(0, None)], [box(FAR, None)]), 0))
        self.assertTrue(self.turns(ever, ([], []), ([box(FAR, None)], [at(FAR - 3)]), 0))
        self.assertFalse(self.turns(ever, ([], []), ([box(FAR, None)], [at(FAR - 4)]), 0))
        self.assertTrue(self.turns(ever, ([(5, "k", 1)], []), ([], [box(8, None)]), 0))
        self.assertFalse(self.turns(ever, ([(5, "k", 1)], []), ([], [box(9, None)]), 0))

    def test_one_key(self):
        works = self.works()
        other = ("only", ("m",))
        for keys, wanted in ((other, False), (("but", ("k",)), False), (("but", ("m",)), True), (ALL_KEYS, True)):
            self.assertIs(self.turns(works, ([], []), ([at(6)], [box(6, 7, one(1), keys)])), wanted)
            self.assertIs(self.turns(works, ([(6, "k", 1)], []), ([], [box(6, 7, one(1), keys)])), wanted)
        self.assertFalse(self.turns(works, ([(6, "m", 1)], []), ([], [at(6)])))
        self.assertFalse(self.turns(works, ([(6, "m", 1)], []), ([], [box(6, 7, one(1), other)])))

    def values(self, how, word, there, boxes):
        """Whether values turn a cell, all things at one time; there and boxes as values and stretches."""
        works = self.works(how, f"fixed f p 5 {word}")
        things = tuple([(6, "k", value) for value in side] for side in there)
        return boxes_turn(works, "q", "k", 1, things, tuple([box(6, 7, stretch) for stretch in side] for side in boxes))

    def test_values_beside_what_is_there(self):
        for how, word, there, side, turning, staying in (
            ("sum", "most", ([4], [6]), 1, (7, FAR), (6, 5, -FAR)), ("sum", "least", ([4], [6]), 1, (5, -FAR), (6, 7, FAR)),
            ("sum", "most", ([4], [6]), 0, (5, FAR), (4, 3)), ("less", "most", ([4], [6]), 1, (5, -FAR), (6, 7, FAR)),
            ("less", "least", ([4], [6]), 1, (7, FAR), (6, 5, -FAR)), ("less", "most", ([4], [6]), 0, (5,), (4, 3)),
            ("less", "least", ([4], [6]), 0, (3,), (4, 5)), ("left", "most", ([4], [6]), 0, (5,), (4, 3)),
            ("left", "least", ([4], [6]), 0, (3,), (4, 5)), ("left", "most", ([4], [6]), 1, (), (FAR, -FAR, 6)),
            ("left", "least", ([4], [6]), 1, (), (FAR, -FAR, 6)), ("right", "most", ([4], [6]), 1, (7,), (6, 5)),
            ("right", "least", ([4], [6]), 1, (5,), (6, 7)), ("right", "most", ([4], [6]), 0, (), (FAR, -FAR, 4)),
            # The greatest that is there pairs with what comes, not the last or the first one.
            ("sum", "most", ([1, 9, 4], [6]), 1, (7,), (6,)), ("less", "least", ([1, 9, 4], [6]), 1, (7,), (6,)),
            ("sum", "least", ([5, 1, 9], [6]), 1, (5,), (6,)),
        ):
            for value in turning + staying:
                boxes = [[], []]
                boxes[side] = [one(value)]
                self.assertIs(self.values(how, word, there, tuple(boxes)), value in turning, (how, word, there, side, value))

    def test_values_of_both_sides(self):
        there = ([4], [6])
        for how, word, left, right, wanted in (
            ("sum", "most", (0, 5, 1, 0), (0, 5, 1, 0), True), ("sum", "most", (0, 4, 1, 0), (0, 6, 1, 0), False),
            ("sum", "most", (0, 8, 4, 0), (-9, 3, 4, 3), True), ("sum", "most", (None, 4, 1, 0), (None, 6, 1, 0), False),
            ("sum", "most", (None, 4, 1, 0), (0, None, 1, 0), True), ("sum", "least", (4, None, 1, 0), (6, 9, 1, 0), False),
            ("sum", "least", (4, None, 1, 0), (5, 9, 1, 0), True), ("sum", "least", (4, 5, 1, 0), (None, 9, 1, 0), True),
            ("less", "most", (None, 4, 1, 0), (6, None, 1, 0), False), ("less", "most", (None, 5, 1, 0), (6, None, 1, 0), True),
            ("less", "most", (0, 1, 1, 0), (None, 9, 1, 0), True), ("less", "least", (4, None, 1, 0), (None, 6, 1, 0), False),
            ("less", "least", (4, None, 1, 0), (None, 7, 1, 0), True), ("less", "least", (4, 4, 1, 0), (6, None, 1, 0), True),
            ("left", "most", (None, 4, 1, 0), ALL_VALUES, False), ("left", "most", (None, 5, 1, 0), ALL_VALUES, True),
            ("left", "least", (4, None, 1, 0), ALL_VALUES, False), ("left", "least", ALL_VALUES, one(0), True),
            ("right", "most", ALL_VALUES, (None, 6, 1, 0), False), ("right", "most", one(0), ALL_VALUES, True),
            ("right", "least", ALL_VALUES, (6, None, 1, 0), False), ("right", "least", ALL_VALUES, (5, None, 1, 0), True),
        ):
            self.assertIs(self.values(how, word, there, ([left], [right])), wanted, (how, word, left, right))

    def test_values_at_an_end_of_each_side(self):
        # What is there is too far from what can come to pair with it, so both ends must come.
        for how, word, left, right in (
            ("sum", "most", 5, 7), ("sum", "least", -4, -6), ("less", "most", 5, -6), ("less", "least", -4, 7),
            ("left", "most", 5, None), ("left", "least", -4, None), ("right", "most", None, 7), ("right", "least", None, -6),
        ):
            sides = ((-4, 5, 3, 2), (-6, 7, 1, 0))
            best = {"sum": (left or 0) + (right or 0), "less": (left or 0) - (right or 0), "left": left, "right": right}[how]
            works = self.works(how, f"ever f p {word}", 0)
            for amount, wanted in ((best - 1, word == "most"), (best, False), (best + 1, word == "least")):
                pair = {"sum": (amount, 0), "less": (amount, 0), "left": (amount, 0), "right": (0, amount)}[how]
                there = ([(4, "k", pair[0])], [(4, "k", pair[1])])
                boxes = ([box(6, 9, sides[0])], [box(6, 9, sides[1])])
                self.assertIs(boxes_turn(works, "q", "k", 0, there, boxes), wanted, (how, word, amount))

    def test_values_of_a_cell_without_pairs(self):
        for how, word in itertools.product(("sum", "less", "left", "right"), ("count", "most", "least")):
            for there, boxes in ((([], []), ([one(-9)], [one(9)])), (([3], []), ([], [one(-9)])), (([], [3]), ([one(9)], []))):
                self.assertIs(self.values(how, word, there, boxes), True)

    def test_a_pair_that_is_there_in_another_cell(self):
        works = self.works("left", "fixed f p 5 most")
        # The pair of 4 and 4 is in the window of 0; that of 4 and 7 in the window of 1.
        there = ([(4, "k", 9)], [(4, "k", 0)])
        self.assertTrue(boxes_turn(works, "q", "k", 1, there, ([], [at(7, 0)])))
        self.assertFalse(boxes_turn(works, "q", "k", 1, (there[0], [(4, "k", 0), (6, "k", 0)]), ([], [at(7, 0)])))
        self.assertFalse(boxes_turn(works, "q", "k", 0, there, ([], [at(3, 0)])))
        self.assertTrue(boxes_turn(works, "q", "k", 0, there, ([at(3, 10)], [])))

    def test_left_and_right_one_row(self):
        works = works_of("fixed f p 5 most", below=("in a * *", "pair p a a 0 sum"))
        things = [(6, "k", 4), (7, "k", 1)]
        for value, wanted in ((4, False), (5, True), (-9, False)):
            boxes = [at(6, value)]
            self.assertIs(boxes_turn(works, "q", "k", 1, (things, things), (boxes, boxes)), wanted)
        self.assertTrue(boxes_turn(works, "q", "k", 1, ([], []), ([at(6)], [at(6)])))
        # Each by itself, with what is there at its time alone.
        self.assertFalse(boxes_turn(works, "q", "k", 1, (things, things), ([at(7, 4)], [at(7, 4)])))
        self.assertTrue(boxes_turn(works, "q", "k", 1, (things, things), ([at(7, 5)], [at(7, 5)])))


class Drawn(unittest.TestCase):
    """Boxes gone through thing by thing, and in twos; of those without end as far as anything hangs on it."""

    END = 18
    VALUES = range(-9, 10)

    def some_things(self, dice, most):
        return [(dice.randint(0, 10), dice.choice("kkkm"), dice.randint(-3, 3)) for _ in range(dice.randint(0, most))]

    def some_box(self, dice, wide):
        begin, low, step = dice.randint(0, 11), dice.randint(-4, 4), dice.randint(1, 3)
        end = None if dice.random() < wide else begin + dice.randint(1, 3)
        high = low + step * dice.randint(0, 2)
        stretch = (low, high, step, low % step) if low < high else one(low)
        if dice.random() < wide:
            stretch = dice.choice(((None, high, step, high % step), (low, None, step, low % step), ALL_VALUES))
        return (dice.choice((K, K, ALL_KEYS, ("but", ("m",)), ("only", ("m",)), ("but", ("k",)))), begin, end, stretch)

    def some_boxes(self, dice, wide):
        return [self.some_box(dice, wide) for _ in range(dice.choice((0, 1, 1, 1, 2)))]

    def some_fold(self, dice, words):
        word = dice.choice(words)
        rest = {"fixed": (dice.randint(1, 5),), "slide": dice.choice(((3, 1), (5, 2), (4, 3))),
                "gaps": (dice.randint(1, 4),), "ever": ()}[word]
        window = {"fixed": dice.randint(0, 3), "slide": dice.randint(0, 4), "gaps": dice.randint(0, 11), "ever": 0}[word]
        if word == "slide" and dice.random() < 0.3:
            window = -1
        return word, rest, window

    def things_of(self, boxes, values):
        things = itertools.product(range(self.END), "km", values)
        return [thing for thing in things if any(in_box(still, thing) for still in boxes)]

    def turned(self, ask, fold, window, there, pool):
        """Whether things of a pool, one by one, often, or in twos, turn a cell."""
        now = answer(ask, cell_amount(fold, "k", window, there))
        more = [[thing] * often for thing in pool for often in (1, 2, 3, 4)]
        twos = list(itertools.combinations(pool, 2))
        more += [list(two) for two in (twos if len(twos) < 400 else random.Random(5).sample(twos, 400))]
        return any(answer(ask, cell_amount(fold, "k", window, there + added)) != now for added in more)

    def some_cell(self, dice):
        """An ask, a fold on a chain, a window, things and boxes."""
        word, rest, window = self.some_fold(dice, ("fixed", "slide", "gaps", "ever"))
        fold_word = dice.choice(("count", "sum", "most", "least"))
        bounds = ()
        if word != "gaps" and fold_word != "sum" and dice.random() < 0.6:
            low = dice.randint(1, 4) if fold_word == "count" else dice.choice((None, -2, -1, 0, 1))
            bounds = (low, dice.choice((None, (low or 0) + dice.randint(0, 2))))
        there = self.some_things(dice, 6)
        if word == "gaps" and there and dice.random() < 0.5:
            window = there[0][0]
        ask, fold = ("ask", "q", ("f",), bounds), (word, "f", ("a",), rest + (fold_word,))
        return ask, fold, window, there, self.some_boxes(dice, 0.15)

    def test_chains(self):
        dice = random.Random(81)
        told = {True: 0, False: 0}
        for _ in range(3000):
            ask, fold, window, there, boxes = self.some_cell(dice)
            works = [("in", "a", (), (None, None)), fold, ask]
            wanted = self.turned(ask, fold, window, there, self.things_of(boxes, self.VALUES))
            self.assertIs(boxes_turn(works, "q", "k", window, there, boxes), wanted, (works, window, there, boxes))
            told[wanted] += 1
        self.assertGreater(min(told.values()), 400)

    def test_just_the_things_that_turn(self):
        dice = random.Random(83)
        for _ in range(600):
            ask, fold, window, there, boxes = self.some_cell(dice)
            turning = chain_turning(ask, fold, "k", window, there, boxes)
            for thing in self.things_of(boxes, self.VALUES):
                wanted = self.turned(ask, fold, window, there, [thing])
                told = any(in_box(still, thing) for still in turning)
                self.assertIs(told, wanted, (ask, fold, window, there, boxes, thing))

    def ends(self, boxes):
        """The things of boxes with the least and the greatest values that anything hangs on; no others matter to a pair."""
        things = []
        for still in boxes:
            values = [thing[2] for thing in self.things_of([still], self.VALUES)]
            things += self.things_of([still], sorted({min(values), max(values)}) if values else [])
        return [thing for thing in things if thing[1] == "k"]

    def paired_turn(self, pair, fold, window, there, pools):
        now = cell_amount(fold, "k", window, paired(pair, *there))
        for left, right in itertools.product([None] + pools[0], [None] + pools[1]):
            lefts = there[0] + [left] * (left is not None)
            rights = there[1] + [right] * (right is not None)
            if cell_amount(fold, "k", window, paired(pair, lefts, rights)) != now:
                return True
        return False

    def test_pairs(self):
        dice = random.Random(82)
        told = {True: 0, False: 0}
        for _ in range(1500):
            word, rest, window = self.some_fold(dice, ("fixed", "slide", "ever"))
            fold = (word, "f", ("p",), rest + (dice.choice(("count", "most", "least")),))
            pair = ("pair", "p", ("a", "b"), (dice.randint(0, 4), dice.choice(("sum", "less", "left", "right"))))
            there = (self.some_things(dice, 3), self.some_things(dice, 3))
            boxes = (self.some_boxes(dice, 0.1), self.some_boxes(dice, 0.1))
            works = [("in", "a", (), (None, None)), ("in", "b", (), (None, None)), pair, fold, ("ask", "q", ("f",), ())]
            wanted = self.paired_turn(pair, fold, window, there, [self.ends(side) for side in boxes])
            self.assertIs(boxes_turn(works, "q", "k", window, there, boxes), wanted, (works, window, there, boxes))
            told[wanted] += 1
        self.assertGreater(min(told.values()), 300)


class Refused(unittest.TestCase):
    WORKS = read_works(
        "in a * *\nin b * *\npair p a b 3 sum\nfixed f a 5 count\nslide s a 5 2 sum\ngaps g a 4 most\never e a least\n"
        "fixed fp p 7 count\nask qf f\nask qs s\nask qg g\nask qe e\nask qp fp\nask qb f 2 3"
    )
    ASKS = ("qf", "qs", "qg", "qe", "qp", "qb")

    def assertRefused(self, ask, key, window):
        for boxes in ([], [box(0, None, ALL_VALUES, ALL_KEYS)]):
            there = ([], []) if ask == "qp" else []
            boxes = (boxes, boxes) if ask == "qp" else boxes
            try:
                boxes_turn(self.WORKS, ask, key, window, there, boxes)
            except NoCell as refused:
                self.assertIs(type(refused), NoCell)
            else:
                self.fail((ask, key, window))

    def told(self, ask, key, window):
        still = [box(0, None, ALL_VALUES, ALL_KEYS)]
        there, boxes = (([], []), (still, still)) if ask == "qp" else ([], still)
        return boxes_turn(self.WORKS, ask, key, window, there, boxes)

    def test_no_such_ask(self):
        for ask in ("x", "", "Q", "q f", "a", "b", "p", "f", "s", "g", "e", "fp", None, 0, True, ("qf",), ["qf"]):
            self.assertRefused(ask, "k", 0)

    def test_what_is_no_key(self):
        for ask in self.ASKS:
            for key in ("", "K", "k1", "k ", "abcdefghi", None, 0, True, ("k",), ["k"], "\u00e9"):
                self.assertRefused(ask, key, 0)
            self.assertIs(self.told(ask, "abcdefgh", 0), True)

    def test_windows_that_are_no_numbers(self):
        for ask in self.ASKS:
            for window in (True, False, None, "0", "", (0,), [0], 0.0):
                self.assertRefused(ask, "k", window)

    def test_windows_that_are_no_cells(self):
        for ask, windows in (
            ("qf", (-1, -2, -FAR)), ("qb", (-1,)), ("qp", (-1, -FAR)), ("qs", (-3, -4, -FAR)), ("qg", (-1, -3, -FAR)),
            ("qe", (-1, 1, 5, FAR, -FAR)),
        ):
            for window in windows:
                self.assertRefused(ask, "k", window)

    def test_windows_that_are_cells(self):
        for ask, windows in (("qf", (0, 1, FAR)), ("qb", (0, FAR)), ("qp", (0, FAR)), ("qs", (-2, -1, 0, 5, FAR)),
                             ("qg", (0, 1, FAR)), ("qe", (0,))):
            for window in windows:
                self.assertIs(self.told(ask, "k", window), True, (ask, window))

    def test_the_times_of_a_slide_that_are_all_below_0(self):
        for width, step in ((2, 1), (20, 1), (7, 6), (6, 3), (7, 3), (999, 998)):
            works = works_of(f"slide f a {width} {step} count")
            for window in range(-25, 3):
                if window * step + width - 1 >= 0:
                    self.assertIs(boxes_turn(works, "q", "k", window, [], [box(0, None)]), True)
                else:
                    with self.assertRaises(NoCell):
                        boxes_turn(works, "q", "k", window, [], [box(0, None)])


class Own(unittest.TestCase):
    def test_nothing_handed_in_is_changed(self):
        works = Refused.WORKS
        there = [(6, "k", 3), (0, "k", -1), (6, "m", 3)]
        boxes = [box(0, None, ALL_VALUES, ALL_KEYS), at(5), at(1)]
        pair_there, pair_boxes = (list(there), list(there[::-1])), (list(boxes), list(boxes[::-1]))
        kept = copy.deepcopy((works, there, boxes, pair_there, pair_boxes))
        for ask in ("qf", "qs", "qg", "qe", "qb"):
            boxes_turn(works, ask, "k", 0, there, boxes)
        boxes_turn(works, "qp", "k", 0, pair_there, pair_boxes)
        with self.assertRaises(NoCell):
            boxes_turn(works, "qf", "k", -1, there, boxes)
        self.assertEqual((works, there, boxes, pair_there, pair_boxes), kept)

    def test_told_the_same_again(self):
        works = works_of("gaps f a 5 count")
        there = [(10, "k", 1)]
        for boxes, wanted in (([at(12)], True), ([at(20)], False), ([at(12)], True)):
            self.assertIs(boxes_turn(works, "q", "k", 10, there, boxes), wanted)
        there.append((20, "k", 1))
        self.assertIs(boxes_turn(works, "q", "k", 20, there, [at(20)]), True)
        self.assertIs(boxes_turn(works, "q", "k", 10, there, [at(20)]), False)


if __name__ == "__main__":
    unittest.main()
