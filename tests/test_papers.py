"""Papers that are told of settled cells (points 28, 3 and 2 for it)."""

import copy
import random
import unittest

from drawn import SETTLED_THOUGH_OPEN, drawn, mark, some_cells, some_pair, thing, works_of
from latewell.checker import check_paper
from latewell.papers import settled_paper
from latewell.turns import cell_turning
from samples import IN_BOUNDS, some_comings
from walked import chains_of, marks_of


def is_box(box):
    """Whether this is a box in the form of point 8, its parts in the forms of points 4 and 7."""
    (word, names), begin, end, (low, high, step, rest) = box
    right = type(box) is tuple and type(box[0]) is tuple and type(names) is tuple and type(box[3]) is tuple
    right = right and word in ("only", "but") and list(names) == sorted(set(names)) and (word == "but" or names != ())
    right = right and begin >= 0 and (end is None or end > begin) and 0 <= rest < step
    right = right and all(bound is None or bound % step == rest for bound in (low, high))
    return right and (low is None or high is None or low < high or (low == high and (step, rest) == (1, 0)))


class Papers(unittest.TestCase):
    def assertTold(self, works, comings, ask, key, window):
        """That a paper that is let by is told just where no comings turn the cell; whether it is."""
        kept = copy.deepcopy((works, comings))
        paper = settled_paper(works, comings, ask, key, window)
        self.assertEqual((works, comings), kept)
        settled = cell_turning(works, comings, ask, key, window) is None
        self.assertEqual(paper is not None, settled, (works, comings, ask, key, window))
        if not settled:
            return False
        self.assertIs(type(paper), dict)
        self.assertTrue(set(paper) <= set(chains_of(works)))
        for boxes in paper.values():
            self.assertIs(type(boxes), list)
            self.assertTrue(all(is_box(box) for box in boxes), boxes)
        self.assertIsNone(check_paper(works, comings, ask, key, window, paper))
        return True

    def test_settled_cells(self):
        for rows, comings, window in SETTLED_THOUGH_OPEN:
            self.assertTrue(self.assertTold(works_of(*rows), comings, "q", "k", window))

    def test_cells_that_are_not_settled(self):
        for rows, comings, window in (
            (("in a * *", "fixed f a 5 sum", "ask q f"), [thing(3), mark(4)], 0),
            (("in a * 4", "ever f a most", "ask q f"), [thing(3, 3)], 0),
            (("in a 0 0", "ever f a sum", "ask q f"), [], 0),
            (("in a * *", "ever f a count", "ask q f 1 2"), [thing(3)] * 2, 0),
            (("in a * *", "ever f a count", "ask q f 50 50"), [], 0),
            (("in a * *", "gaps f a 5 count", "ask q f"), [thing(3), mark(7)], 3),
            (("in a * *", "in b * *", "pair p a b 3 sum", "fixed f p 5 count", "ask q f"), [mark(4)], 0),
        ):
            self.assertFalse(self.assertTold(works_of(*rows), comings, "q", "k", window))

    def test_the_names_of_all_chains_below(self):
        works = works_of("in a * *", "in b * *", "in c * *", "later l a 1", "time t l 0 9", "only o b k", "turn u c 2 0",
                         "pair p t o 3 sum", "fixed f p 5 count", "ask q f", "fixed g u 5 count", "ask r g")
        shut = [("close", "a"), ("close", "b"), ("close", "c")]
        self.assertTrue({"a", "b", "l", "t", "o"} <= set(settled_paper(works, shut, "q", "k", 0)))
        self.assertTrue({"c", "u"} <= set(settled_paper(works, shut, "r", "k", 0)))

    def test_what_is_told_is_the_askers_own(self):
        works = works_of("in a * *", "in b * *", "pour p a b", "rest r p 2 0", "fixed f r 5 count", "ask q f")
        comings = [mark(5), mark(6, "b")]
        paper = settled_paper(works, comings, "q", "k", 0)
        kept = copy.deepcopy(paper)
        self.assertEqual(len({id(boxes) for boxes in paper.values()}), len(paper))
        for boxes in paper.values():
            boxes.clear()
        paper.clear()
        self.assertEqual(settled_paper(works, comings, "q", "k", 0), kept)


class Drawn(Papers):
    def assertDrawn(self, dice, count, bounds, fewest):
        told = {True: 0, False: 0}
        for works, comings in drawn(dice, count, bounds):
            for ask, key, window in some_cells(dice, works, comings):
                told[self.assertTold(works, comings, ask, key, window)] += 1
        self.assertGreater(min(told.values()), fewest)

    def test_ins_with_few_values(self):
        self.assertDrawn(random.Random(96), 300, ((-1, 1), (0, 2), (5, 5)), 200)

    def test_ins_without_bounds(self):
        self.assertDrawn(random.Random(97), 300, IN_BOUNDS, 200)

    def test_pairs_of_one_in(self):
        dice = random.Random(98)
        told = {True: 0, False: 0}
        for _ in range(300):
            works, comings, window = some_pair(dice)
            told[self.assertTold(works, comings, "q", "k", window)] += 1
        self.assertGreater(min(told.values()), 50)

    def test_a_paper_stays_good(self):
        dice = random.Random(99)
        seen = 0
        for works, comings in drawn(dice, 150):
            later = comings + some_comings(dice, works, dice.randint(1, 10), marks_of(works, comings))
            for ask, key, window in some_cells(dice, works, comings):
                paper = settled_paper(works, comings, ask, key, window)
                if paper is not None:
                    seen += 1
                    self.assertIsNone(check_paper(works, later, ask, key, window, paper))
                    self.assertTrue(self.assertTold(works, later, ask, key, window))
        self.assertGreater(seen, 150)


if __name__ == "__main__":
    unittest.main()
