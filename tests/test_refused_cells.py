"""What is refused of those that look at a cell behind comings (points 24, 14, and 2 for them), and in which order."""

import copy
import unittest

from latewell.checker import check_paper
from latewell.errors import Late, NoCell, NoComing
from latewell.papers import settled_paper
from latewell.turns import cell_turning, settles_at
from latewell.works import read_works

WORKS = read_works(
    "in a * *\nin b * *\npair p a b 3 sum\nfixed f a 5 count\nslide s a 5 2 sum\ngaps g a 4 most\never e a least\n"
    "fixed fp p 7 count\nask qf f\nask qs s\nask qg g\nask qe e\nask qp fp\nask qb f 2 3"
)
ASKS = ("qf", "qs", "qg", "qe", "qp", "qb")
FAR = 10 ** 199
CLOSED = [("close", "a"), ("close", "b")]
# With this paper whatever is a cell of the closed ins is let by.
PAPER = {"a": [], "b": []}


def told_settles(works, comings, ask, key, window):
    return settles_at(works, comings, ask, key, window, "a")


def told_checked(works, comings, ask, key, window):
    return check_paper(works, comings, ask, key, window, PAPER)


def told_wrong(works, comings, ask, key, window):
    """A paper that lacks every name: it must not be looked at ahead of the comings and the cell."""
    return check_paper(works, comings, ask, key, window, {})


CALLS = (cell_turning, told_settles, settled_paper, told_checked)
REFUSING = CALLS + (told_wrong,)


class Refused(unittest.TestCase):
    def assertRefused(self, refusal, comings, ask, key, window):
        kept = copy.deepcopy((WORKS, comings))
        for call in REFUSING:
            try:
                call(WORKS, comings, ask, key, window)
            except refusal as refused:
                self.assertIs(type(refused), refusal)
            else:
                self.fail((call, comings, ask, key, window))
        self.assertEqual((WORKS, comings), kept)

    def test_no_such_ask(self):
        for ask in ("x", "", "Q", "q f", "a", "b", "p", "f", "s", "g", "e", "fp", None, 0, True, ("qf",), ["qf"]):
            for comings in ([], CLOSED, [("thing", "a", 3, "k", 1)]):
                self.assertRefused(NoCell, comings, ask, "k", 0)

    def test_what_is_no_key(self):
        for ask in ASKS:
            for key in ("", "K", "k1", "k ", " k", "abcdefghi", "k\n", None, 0, True, ("k",), ["k"], "\u00e9"):
                self.assertRefused(NoCell, CLOSED, ask, key, 0)

    def test_windows_that_are_no_whole_numbers(self):
        for ask in ASKS:
            for window in (True, False, None, "0", "", (0,), [0], 0.0):
                self.assertRefused(NoCell, CLOSED, ask, "k", window)

    def test_windows_whose_times_are_all_below_0(self):
        for ask, windows in (
            ("qf", (-1, -2, -FAR)), ("qb", (-1,)), ("qp", (-1, -FAR)), ("qs", (-3, -4, -FAR)), ("qg", (-1, -3, -FAR)),
            ("qe", (-1, 1, 5, FAR, -FAR)),
        ):
            for window in windows:
                for comings in ([], CLOSED):
                    self.assertRefused(NoCell, comings, ask, "k", window)

    def test_the_first_windows_that_are_not(self):
        for ask, windows in (("qf", (0, 1, FAR)), ("qb", (0, FAR)), ("qp", (0, FAR)), ("qs", (-2, -1, 0, 5, FAR)),
                             ("qg", (0, 1, FAR)), ("qe", (0,))):
            for window in windows:
                for key in ("k", "abcdefgh"):
                    self.assertIsNotNone(cell_turning(WORKS, [], ask, key, window))
                    self.assertIsNone(cell_turning(WORKS, CLOSED, ask, key, window))
                    self.assertIsNone(settled_paper(WORKS, [], ask, key, window))
                    self.assertEqual(settled_paper(WORKS, CLOSED, ask, key, window), PAPER if ask == "qp" else {"a": []})
                    self.assertIsNone(told_checked(WORKS, CLOSED, ask, key, window))
                    self.assertEqual(told_settles(WORKS, [("mark", "a", 9 * FAR)], ask, key, window),
                                     None if ask == "qe" else 9 * FAR)

    def test_comings_that_are_none(self):
        for coming in (None, ("thing", "a", 3, "k"), ["close", "a"], ("close", "f"), ("thing", "a", -1, "k", 0),
                       ("mark", "a", True), ("thing", "a", 0, "K", 0), ("close", "x")):
            late_behind = [coming, ("mark", "a", 5), ("mark", "a", 4)]
            for comings in ([coming], [("mark", "a", 5), coming], CLOSED + [coming], late_behind):
                self.assertRefused(NoComing, comings, "qf", "k", 0)

    def test_comings_that_are_late(self):
        for comings in ([("mark", "a", 5), ("thing", "a", 4, "k", 0)], [("mark", "b", 5), ("mark", "b", 4)],
                        [("close", "a"), ("close", "a")], [("close", "a"), ("mark", "a", 9)],
                        [("close", "a"), ("thing", "a", 9, "k", 0), ("close", "x")]):
            self.assertRefused(Late, comings, "qf", "k", 0)

    def test_refused_comings_ahead_of_cells_that_are_none(self):
        late = [("mark", "a", 5), ("thing", "a", 4, "k", 0)]
        for ask, key, window in (("x", "k", 0), ("f", "k", 0), ("qf", "K", 0), ("qf", "k", -1), ("qf", "k", True), ("qe", "k", 1),
                                 ("qg", "k", -1), ("qs", "k", -3), (None, None, None)):
            self.assertRefused(Late, late, ask, key, window)
            self.assertRefused(NoComing, [("close", "x")], ask, key, window)
            self.assertRefused(NoComing, [("close", "x")] + late, ask, key, window)
            self.assertRefused(Late, late + [("close", "x")], ask, key, window)
            self.assertRefused(NoCell, late[:1], ask, key, window)


class NoIn(unittest.TestCase):
    """What is no in has no mark that settles a cell."""

    NAMES = ("x", "", "p", "f", "qf", "A", "a ", None, 0, True, ("a",), ["a"])

    def assertRefused(self, refusal, comings, ask, key, window, name):
        try:
            settles_at(WORKS, comings, ask, key, window, name)
        except refusal as refused:
            self.assertIs(type(refused), refusal)
        else:
            self.fail((comings, ask, key, window, name))

    def test_no_such_in(self):
        for name in self.NAMES:
            for comings in ([], CLOSED, [("mark", "a", 9)]):
                self.assertRefused(NoCell, comings, "qf", "k", 0, name)
                self.assertRefused(NoCell, comings, "qp", "k", 0, name)
                self.assertRefused(NoCell, comings, "qf", "k", -1, name)

    def test_refused_comings_ahead_of_it(self):
        for name in self.NAMES:
            self.assertRefused(NoComing, [("close", "x")], "qf", "k", 0, name)
            self.assertRefused(Late, [("close", "a"), ("close", "a")], "qf", "k", 0, name)

    def test_other_chains_are_no_ins(self):
        works = read_works("in a * *\nlater l a 1\nfixed f l 5 count\nask q f")
        with self.assertRaises(NoCell):
            settles_at(works, [], "q", "k", 0, "l")
        self.assertEqual(settles_at(works, [], "q", "k", 0, "a"), 4)


if __name__ == "__main__":
    unittest.main()
