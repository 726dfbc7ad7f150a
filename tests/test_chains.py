"""Things by rows (point 15), held against the words of point 10 and against boxes."""

import itertools
import unittest

from latewell.boxes import row_forth
from latewell.chains import through_row
from samples import ONE_FROM_ROWS, by_row

GREAT = 999999999999
THINGS = list(itertools.product(range(0, 24), ("a", "b", "c", "q"), range(-30, 31)))


class Through(unittest.TestCase):
    def assertThrough(self, word, rest, cases):
        for thing, wanted in cases:
            with self.subTest(word=word, rest=rest, thing=thing):
                self.assertEqual(through_row((word, "x", ("y",), rest), thing), wanted)

    def assertSieve(self, word, rest, let_by, shut):
        self.assertThrough(word, rest, [(thing, thing) for thing in let_by] + [(thing, None) for thing in shut])

    def test_time(self):
        let_by = [(3, "a", 0), (4, "b", -9), (6, "a", 9)]
        self.assertSieve("time", (3, 7), let_by, [(2, "a", 0), (7, "a", 0), (0, "a", 5), (100, "a", 5)])
        self.assertSieve("time", (3, None), [(3, "a", 0), (GREAT * GREAT, "a", 0)], [(2, "a", 0)])
        self.assertSieve("time", (0, 1), [(0, "a", 0)], [(1, "a", 0)])

    def test_only(self):
        self.assertSieve("only", ("b", "a"), [(0, "a", 0), (9, "b", -9)], [(0, "c", 0), (0, "ab", 0), (0, "aa", 0)])

    def test_but(self):
        self.assertSieve("but", ("b", "a"), [(0, "c", 0), (9, "ab", -9), (0, "aa", 0)], [(0, "a", 0), (0, "b", 0)])

    def test_span(self):
        self.assertSieve("span", (-3, 4), [(0, "a", -3), (0, "a", 0), (0, "a", 4)], [(0, "a", -4), (0, "a", 5)])
        self.assertSieve("span", (-5, -5), [(0, "a", -5)], [(0, "a", -6), (0, "a", -4), (0, "a", 5)])
        self.assertSieve("span", (None, -2), [(0, "a", -2), (0, "a", -GREAT * GREAT)], [(0, "a", -1), (0, "a", 0)])
        self.assertSieve("span", (2, None), [(0, "a", 2), (0, "a", GREAT * GREAT)], [(0, "a", 1), (0, "a", -2)])
        self.assertSieve("span", (None, None), [(0, "a", -GREAT * GREAT), (0, "a", GREAT * GREAT)], [])

    def test_rest(self):
        self.assertSieve("rest", (3, 2), [(0, "a", 2), (0, "a", -1), (0, "a", -4)], [(0, "a", -2), (0, "a", 1)])
        self.assertSieve("rest", (2, 0), [(0, "a", 0), (0, "a", -2)], [(0, "a", 1), (0, "a", -1)])
        self.assertSieve("rest", (1000, 999), [(0, "a", 999), (0, "a", -1)], [(0, "a", 998), (0, "a", -999)])

    def test_turn(self):
        self.assertThrough("turn", (-3, 2), [((5, "a", 4), (5, "a", -10)), ((5, "a", -4), (5, "a", 14))])
        self.assertThrough("turn", (1, -7), [((0, "b", 0), (0, "b", -7)), ((0, "b", 7), (0, "b", 0))])
        self.assertThrough("turn", (1000, -GREAT), [((0, "b", -1), (0, "b", -1000 - GREAT))])
        self.assertThrough("turn", (-1000, GREAT), [((0, "b", 10 ** 180), (0, "b", -1000 * 10 ** 180 + GREAT))])

    def test_later(self):
        self.assertThrough("later", (0,), [((5, "a", -4), (5, "a", -4)), ((0, "a", 0), (0, "a", 0))])
        self.assertThrough("later", (3,), [((0, "a", -4), (3, "a", -4)), ((5, "a", 0), (8, "a", 0))])
        self.assertThrough("later", (GREAT,), [((5, "a", 1), (5 + GREAT, "a", 1))])

    def test_put(self):
        table = (("a", "b"), ("b", "c"), ("d", "d"), ("e", "b"))
        # A key goes through the table once: what becomes b does not go on to c.
        for key, other in (("a", "b"), ("b", "c"), ("c", "c"), ("d", "d"), ("e", "b"), ("q", "q"), ("aa", "aa")):
            self.assertThrough("put", table, [((5, key, -4), (5, other, -4))])

    def test_held_against_the_words(self):
        for row in ONE_FROM_ROWS:
            for thing in THINGS:
                told = through_row(row, thing)
                if told != by_row(row, thing):
                    self.fail(f"{row} {thing}: {told}")

    def test_held_against_boxes(self):
        # A box of one thing alone becomes the box of what comes of it.
        for row in ONE_FROM_ROWS:
            for thing in THINGS[::17]:
                told = through_row(row, thing)
                boxes = []
                for time, key, value in [thing] + ([] if told is None else [told]):
                    boxes.append((("only", (key,)), time, time + 1, (value, value, 1, 0)))
                self.assertEqual(row_forth(row, boxes[0]), None if told is None else boxes[1], (row, thing))

    def test_kinds(self):
        for row in ONE_FROM_ROWS:
            for thing in THINGS[::29]:
                told = through_row(row, thing)
                if told is not None:
                    self.assertIs(type(told), tuple)
                    self.assertEqual([type(part) for part in told], [int, str, int])


if __name__ == "__main__":
    unittest.main()
