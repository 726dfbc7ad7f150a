"""The marks that settle cells (point 26, and 2 for it), held against cell_turning with the marks put one by one."""

import copy
import itertools
import random
import unittest

from drawn import FAR, FOLD_WORDS, HOWS, drawn, mark, some_cells, some_pair, thing, works_of
from latewell.turns import cell_turning, settles_at
from walked import marks_of

CLOSED = [("close", "a"), ("close", "b")]


def put_one_by_one(works, comings, ask, key, window, name, end):
    """The least mark below end with which a cell is settled, tried one by one; its own one where it is settled."""
    own = marks_of(works, comings)[name]
    if own is None or cell_turning(works, comings, ask, key, window) is None:
        return own
    for time in range(own + 1, end):
        if cell_turning(works, comings + [mark(time, name)], ask, key, window) is None:
            return time
    return None


class Settles(unittest.TestCase):
    def told(self, works, comings, window, name="a", key="k", ask="q", end=40):
        """The mark that is told, looked at by marks one by one where it is not far."""
        kept = copy.deepcopy((works, comings))
        told = settles_at(works, comings, ask, key, window, name)
        self.assertEqual((works, comings), kept)
        self.assertIn(type(told), (int, type(None)))
        if end is not None:
            self.assertEqual(told, put_one_by_one(works, comings, ask, key, window, name, end), (works, comings))
        return told


class Chains(Settles):
    FOLDS = (("fixed f {} 5 {}", 2, 15), ("slide f {} 5 2 {}", 5, 15), ("slide f {} 5 2 {}", -2, 1), ("gaps f {} 5 {}", 10, 11))

    def test_each_fold(self):
        for (fold, window, end), word in itertools.product(self.FOLDS, FOLD_WORDS):
            works = works_of("in a * *", fold.format("a", word), "ask q f")
            self.assertEqual(self.told(works, [], window), end)
            self.assertEqual(self.told(works, [mark(end - 1)], window), end)
            self.assertEqual(self.told(works, [mark(end)], window), end)
            self.assertEqual(self.told(works, [mark(end + 3)], window), end + 3)

    def test_ever_has_no_end(self):
        for word in FOLD_WORDS:
            works = works_of("in a * *", f"ever f a {word}", "ask q f")
            self.assertIsNone(self.told(works, [], 0))
            self.assertIsNone(self.told(works, [thing(3), mark(FAR)], 0, end=None))
            works = works_of("in a * *", "time t a 2 9", f"ever f t {word}", "ask q f")
            self.assertEqual(self.told(works, [], 0), 9)
            works = works_of("in a * *", "time t a 2 *", f"ever f t {word}", "ask q f")
            self.assertIsNone(self.told(works, [thing(3)], 0))

    def test_behind_each_row(self):
        for row, key, wanted in (
            ("later x a 3", "k", 12), ("later x a 0", "k", 15), ("later x a 14", "k", 1), ("turn x a -2 1", "k", 15),
            ("put x a k m", "m", 15), ("put x a m k", "k", 15), ("span x a 0 9", "k", 15), ("rest x a 7 3", "k", 15),
            ("time x a 0 12", "k", 12), ("time x a 12 *", "k", 15), ("time x a 0 99", "k", 15), ("only x a k m", "k", 15),
            ("but x a m", "k", 15),
        ):
            for word in FOLD_WORDS:
                works = works_of("in a * *", row, f"fixed f x 5 {word}", "ask q f")
                self.assertEqual(self.told(works, [], 2, key=key), wanted, row)
                self.assertEqual(self.told(works, [thing(0)], 2, key=key), wanted, row)
        for row, key in (("later x a 15", "k"), ("put x a k m", "k"), ("time x a 15 *", "k"), ("time x a 0 10", "k"),
                         ("only x a m", "k"), ("but x a k", "k")):
            works = works_of("in a * *", row, "fixed f x 5 count", "ask q f")
            self.assertEqual(self.told(works, [], 2, key=key), 0, row)
            self.assertEqual(self.told(works, [mark(3)], 2, key=key), 3, row)

    def test_the_way_that_goes_last(self):
        rows = ["in a -9 9", "rest i a 2 0", "rest j a 2 1", "later l i 4", "time t j 0 13"]
        works = works_of(*rows, "pour p l t", "fixed f p 5 count", "ask q f")
        self.assertEqual(self.told(works, [], 2), 13)
        works = works_of(*rows, "time u t 0 10", "pour p u l", "fixed f p 5 count", "ask q f")
        self.assertEqual(self.told(works, [], 2), 11)
        # Of a most only what is above the one that is there matters: 9, which is odd, and then 8 alone.
        works = works_of(*rows, "pour p l t", "fixed f p 5 most", "ask q f")
        self.assertEqual(self.told(works, [thing(10, 8)], 2), 13)
        self.assertEqual(self.told(works, [thing(10, 7)], 2), 13)
        works = works_of("in a -9 8", *rows[1:], "pour p l t", "fixed f p 5 most", "ask q f")
        self.assertEqual(self.told(works, [thing(10, 7)], 2), 11)
        self.assertEqual(self.told(works, [thing(6, 8)], 2), 0)

    def test_a_session(self):
        there = [thing(10, 2), thing(13, 5)]
        for word in FOLD_WORDS:
            works = works_of("in a * *", f"gaps f a 5 {word}", "ask q f")
            self.assertEqual(self.told(works, there, 10), 18)
            self.assertEqual(self.told(works, there + [mark(18)], 10), 18)
            self.assertEqual(self.told(works, there, 11), 0)
            self.assertEqual(self.told(works, there, 18), 19)
            works = works_of("in a * *", "later l a 6", f"gaps f l 5 {word}", "ask q f")
            self.assertEqual(self.told(works, there, 16), 18)
            works = works_of("in a * *", "time t a 0 14", f"gaps f t 5 {word}", "ask q f")
            self.assertEqual(self.told(works, there, 10), 14)
        # Of no values but 2 to 5 neither a greater nor a lesser one comes; only what makes the session longer turns it.
        for word, wanted in (("count", 14), ("sum", 14), ("most", 10), ("least", 10)):
            works = works_of("in a 2 5", "time t a 0 14", f"gaps f t 5 {word}", "ask q f")
            self.assertEqual(self.told(works, there, 10), wanted)

    def test_values(self):
        for rows, comings, wanted in (
            (("in a 0 0", "fixed f a 5 sum"), [], 5), (("in a 0 0", "fixed f a 5 sum"), [thing(1, 0)], 0),
            (("in a 0 1", "fixed f a 5 sum"), [thing(1, 0)], 5), (("in a * 4", "fixed f a 5 most"), [thing(1, 4)], 0),
            (("in a * 4", "fixed f a 5 most"), [thing(1, 3)], 5), (("in a 4 *", "fixed f a 5 least"), [thing(1, 4)], 0),
            (("in a 4 *", "fixed f a 5 least"), [thing(1, 5), mark(2)], 5),
        ):
            self.assertEqual(self.told(works_of(*rows, "ask q f"), comings, 0), wanted, rows)

    def test_bounds(self):
        for word, bounds, values, wanted in (
            ("count", "3 4", (), 5), ("count", "3 4", (1, 1, 1, 1), 5), ("count", "3 4", (1, 1, 1, 1, 1), 0),
            ("count", "50 50", (1,), 5), ("most", "0 5", (6,), 0), ("most", "0 5", (5,), 5), ("most", "0 5", (-1,), 5),
            ("most", "10 12", (), 0), ("least", "0 5", (-1,), 0), ("least", "0 5", (0,), 5), ("least", "0 5", (6,), 5),
        ):
            works = works_of("in a -9 9", f"fixed f a 5 {word}", f"ask q f {bounds}")
            comings = [thing(1, value) for value in values]
            self.assertEqual(self.told(works, comings, 0), wanted, (word, bounds, values))

    def test_great_numbers(self):
        works = works_of("in a * *", "later l a 999999999999", "fixed f l 3 count", "ask q f")
        self.assertEqual(self.told(works, [], FAR, end=None), 3 * FAR + 3 - 999999999999)
        works = works_of("in a * *", "time t a 0 999999999999", "later l t 7", "ever f l count", "ask q f")
        self.assertEqual(self.told(works, [], 0, end=None), 999999999999)
        self.assertEqual(self.told(works, [mark(FAR)], 0, end=None), FAR)


class Ins(Settles):
    def test_closed_ins(self):
        works = works_of("in a * *", "in b * *", "pour p a b", "fixed f p 5 count", "ask q f")
        for comings in ([("close", "a")], [mark(9), ("close", "a")], [thing(2), ("close", "a")]):
            self.assertIsNone(self.told(works, comings, 0))
            self.assertEqual(self.told(works, comings, 0, "b"), 5)
            self.assertIsNone(self.told(works, comings + [mark(7, "b")], 0))
            self.assertEqual(self.told(works, comings + [mark(7, "b")], 0, "b"), 7)
        self.assertIsNone(self.told(works, CLOSED, 0))
        self.assertIsNone(self.told(works, CLOSED, 0, "b"))

    def test_a_cell_that_another_in_can_turn_for_ever(self):
        works = works_of("in a * *", "in b * *", "pour p a b", "fixed f p 5 count", "ask q f")
        self.assertIsNone(self.told(works, [], 0))
        self.assertIsNone(self.told(works, [mark(4, "b")], 0))
        self.assertEqual(self.told(works, [mark(5, "b")], 0), 5)
        self.assertIsNone(self.told(works, [mark(5, "b")], 0, "b"))
        self.assertEqual(self.told(works, [mark(5), mark(5, "b")], 0, "b"), 5)

    def test_an_in_whose_values_turn_nothing(self):
        works = works_of("in a 0 9", "in b 0 3", "pour p a b", "fixed f p 5 most", "ask q f")
        self.assertIsNone(self.told(works, [], 0))
        self.assertEqual(self.told(works, [thing(1, 3)], 0), 5)
        self.assertIsNone(self.told(works, [thing(1, 3)], 0, "b"))
        self.assertEqual(self.told(works, [thing(1, 9)], 0, "b"), 0)

    def test_an_in_that_is_not_below_the_ask(self):
        works = works_of("in a * *", "in b * *", "fixed f a 5 count", "ask q f", "fixed g b 5 count", "ask p g")
        self.assertIsNone(self.told(works, [], 0, "b"))
        self.assertIsNone(self.told(works, [mark(4), mark(9, "b")], 0, "b"))
        self.assertEqual(self.told(works, [mark(5), mark(9, "b")], 0, "b"), 9)
        self.assertEqual(self.told(works, [mark(5)], 0, "b"), 0)
        self.assertEqual(self.told(works, [mark(5)], 0, "b", ask="p"), 5)


class Pairs(Settles):
    def works(self, fold="fixed f p 5 count", reach=3, how="sum", values=("* *", "* *")):
        return works_of(f"in a {values[0]}", f"in b {values[1]}", f"pair p a b {reach} {how}", fold, "ask q f")

    def test_two_ins(self):
        for how, word in itertools.product(HOWS, ("count", "most", "least")):
            for fold, window, end in (("fixed f p 5", 1, 10), ("slide f p 5 2", 1, 7)):
                works = self.works(f"{fold} {word}", 3, how)
                for comings in ([], [mark(4, "b")], [mark(6, "b")]):
                    for name in "ab":
                        self.assertEqual(self.told(works, comings, window, name), end)
                # One of them is shut ahead of the other one's time, less what they reach.
                self.assertEqual(self.told(works, [mark(end, "b")], window), 0)
                self.assertEqual(self.told(works, [mark(end, "b")], window, "b"), end)
            self.assertIsNone(self.told(self.works(f"ever f p {word}", 3, how), [], 0))

    def test_with_what_is_there(self):
        works = self.works("ever f p count")
        self.assertEqual(self.told(works, [thing(6), ("close", "a")], 0, "b"), 10)
        self.assertEqual(self.told(works, [thing(6), thing(9), thing(2), ("close", "a")], 0, "b"), 13)
        self.assertEqual(self.told(works, [thing(6), thing(30, key="m"), ("close", "a")], 0, "b"), 10)
        self.assertEqual(self.told(works, [thing(6, 1, "b"), ("close", "b")], 0), 10)
        self.assertIsNone(self.told(works, [thing(6), ("close", "a")], 0))
        self.assertEqual(self.told(works, [("close", "a")], 0, "b"), 0)
        self.assertEqual(self.told(works, [("close", "a"), mark(7, "b")], 0, "b"), 7)
        works = self.works("fixed f p 5 count")
        self.assertEqual(self.told(works, [thing(6), ("close", "a")], 1, "b"), 10)
        self.assertEqual(self.told(works, [thing(5), ("close", "a")], 1, "b"), 9)
        self.assertEqual(self.told(works, [thing(3), ("close", "a")], 1, "b"), 7)
        self.assertEqual(self.told(works, [thing(1), ("close", "a")], 1, "b"), 0)

    def test_both_new(self):
        rows = ["in a * *", "in b * *", "time t b 0 8", "later l a {}", "pair p l t 3 sum", "ever f p count", "ask q f"]
        for later, wanted in ((0, 11), (2, 9), (10, 1)):
            works = works_of(*[row.format(later) for row in rows])
            self.assertEqual(self.told(works, [], 0), wanted)
            self.assertEqual(self.told(works, [], 0, "b"), 8)
        works = works_of(*[row.format(11) for row in rows])
        self.assertEqual(self.told(works, [], 0), 0)
        works = works_of(*[row.format(6) for row in rows])
        self.assertEqual(self.told(works, [mark(4)], 0, "b"), 8)
        self.assertEqual(self.told(works, [mark(5, "b")], 0), 5)

    def test_both_sides_on_one_in(self):
        rows = ["in a * *", "later s a {}", "later t a {}", "pair p s t {} sum", "fixed f p 10 count", "ask q f"]
        for one, other, reach in itertools.product((0, 2, 7, 9, 10, 12), (0, 3, 9), (0, 1, 4, 30)):
            works = works_of(*[row.format(*numbers) for row, numbers in zip(rows, ((), (one,), (other,), (reach,), (), ()))])
            self.told(works, [], 0, end=12)
            self.told(works, [thing(1), thing(4)], 0, end=12)
            self.told(works, [thing(1), thing(4), mark(2)], 1, end=24)
        works = works_of("in a * *", "later l a 4", "pair p l a 3 sum", "fixed f p 10 count", "ask q f")
        # At 6 a thing comes left at 9 ahead of 10, and pairs with one at 6 to 9.
        self.assertEqual(self.told(works, [], 0), 6)
        works = works_of("in a * *", "pair p a a 3 sum", "ever f p count", "ask q f")
        self.assertIsNone(self.told(works, [thing(1)], 0))
        works = works_of("in a * *", "time t a 0 9", "pair p a t 3 sum", "ever f p count", "ask q f")
        self.assertEqual(self.told(works, [], 0), 9)
        self.assertEqual(self.told(works, [thing(8)], 0), 12)
        works = works_of("in a * *", "time t a 0 9", "later l t 20", "pair p a l 3 sum", "ever f p count", "ask q f")
        self.assertEqual(self.told(works, [], 0), 9)
        self.assertEqual(self.told(works, [thing(5)], 0), 29)

    def test_values(self):
        works = self.works("fixed f p 5 most", 3, "left", ("0 5", "0 5"))
        there = [thing(6, 5), thing(6, 1, "b")]
        self.assertEqual(self.told(works, there, 1), 0)
        self.assertEqual(self.told(works, there[1:] + [thing(6, 4)], 1), 10)
        self.assertEqual(self.told(works, there[1:] + [thing(6, 4), mark(9)], 1), 10)
        # 5 at 2 pairs with what comes at 5, in this window.
        self.assertEqual(self.told(works, there[1:] + [thing(6, 4), thing(2, 5), mark(10)], 1, "b"), 6)
        works = self.works("ever f p least", 0, "less", ("0 5", "0 5"))
        self.assertEqual(self.told(works, [thing(6, 0), thing(6, 5, "b")], 0), 0)
        self.assertIsNone(self.told(works, [thing(6, 0), thing(6, 4, "b")], 0))
        self.assertEqual(self.told(works, [thing(6, 0), thing(6, 4, "b"), ("close", "a")], 0, "b"), 7)

    def test_great_numbers(self):
        works = self.works("ever f p count", 999999999999)
        self.assertEqual(self.told(works, [thing(FAR), ("close", "a")], 0, "b", end=None), FAR + 1000000000000)


class Drawn(Settles):
    def test_drawn_works(self):
        dice = random.Random(94)
        told = {"own": 0, "later": 0, None: 0}
        for works, comings in drawn(dice, 250):
            marks = marks_of(works, comings)
            for ask, key, window in some_cells(dice, works, comings):
                for name, own in marks.items():
                    at = self.told(works, comings, window, name, key, ask, 80)
                    told[None if at is None else "own" if at == own else "later"] += 1
        self.assertGreater(min(told.values()), 100)

    def test_pairs_of_one_in(self):
        dice = random.Random(95)
        told = {"own": 0, "later": 0, None: 0}
        for _ in range(500):
            works, comings, window = some_pair(dice)
            for name, own in marks_of(works, comings).items():
                at = self.told(works, comings, window, name)
                told[None if at is None else "own" if at == own else "later"] += 1
        self.assertGreater(min(told.values()), 100)


if __name__ == "__main__":
    unittest.main()
