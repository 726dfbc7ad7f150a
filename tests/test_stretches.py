"""Stretches (points 4, 5, 6), held against values gone through one by one."""

import itertools
import math
import random
import unittest

from latewell.stretches import (
    stretch_above, stretch_back, stretch_below, stretch_has, stretch_high, stretch_inside, stretch_low,
    stretch_made, stretch_meet, stretch_moved, stretch_not, stretch_some,
)

ALL = (None, None, 1, 0)
# Windows of values near 0 and far from it: a stretch without a bound must go on for ever.
FAR = 10 ** 30
WINDOW = list(range(-150, 151))
WINDOWS = WINDOW + list(range(FAR - 150, FAR + 151)) + list(range(-FAR - 150, -FAR + 151))
GREAT = 10 ** 200 - 1


def among(v, low, high, step, rest):
    """Whether v is a value by the very words of point 4."""
    return (low is None or low <= v) and (high is None or v <= high) and v % step == rest


def has(one, v):
    return one is not None and among(v, *one)


def nearest_of(values):
    """The value nearest to 0, of two the greater one, gone through one by one."""
    best = None
    for v in values:
        if best is None or abs(v) < abs(best) or (abs(v) == abs(best) and v > best):
            best = v
    return best


def some_stretches(bounds=(None, -7, -1, 0, 4, 9), steps=(1, 2, 3, 4, 6)):
    """Stretches in the one form, each once, made without the program."""
    found = {}
    for low, high, step in itertools.product(bounds, bounds, steps):
        for rest in range(step):
            values = [v for v in WINDOW if among(v, low, high, step, rest)]
            first = None if low is None or not values else values[0]
            last = None if high is None or not values else values[-1]
            if len(values) == 1:
                found[(values[0], values[0], 1, 0)] = True
            elif values:
                found[(first, last, step, rest)] = True
    return list(found)


STRETCHES = some_stretches()
FEW = some_stretches((None, -5, 3), (1, 2, 3))


class Form(unittest.TestCase):
    def assertForm(self, one):
        """That a stretch is in the one form of point 4."""
        if one is None:
            return
        self.assertIs(type(one), tuple)
        low, high, step, rest = one
        for number in [end for end in (low, high) if end is not None] + [step, rest]:
            self.assertIs(type(number), int)
        self.assertTrue(step >= 1 and 0 <= rest < step, one)
        for end in (low, high):
            self.assertTrue(end is None or end % step == rest, one)
        if low is not None and high is not None:
            self.assertLessEqual(low, high)
            if low == high:
                self.assertEqual((step, rest), (1, 0))

    def assertValues(self, one, is_value, windows=WINDOWS):
        """That a stretch in the one form has just these values."""
        self.assertForm(one)
        for v in windows:
            if has(one, v) != is_value(v):
                self.fail(f"{one}: {v}")


class Made(Form):
    def test_of_any_whole_numbers(self):
        bounds = (None, -20, -7, -6, -1, 0, 1, 5, 12)
        for low, high, step in itertools.product(bounds, bounds, (1, 2, 3, 5, 8, 50)):
            for rest in range(-1, min(step, 9) + 2):
                one = stretch_made(low, high, step, rest)
                self.assertValues(one, lambda v: among(v, low, high, step, rest))

    def test_the_one_form(self):
        self.assertEqual(stretch_made(1, 10, 3, 0), (3, 9, 3, 0))
        self.assertEqual(stretch_made(-10, -1, 4, 3), (-9, -1, 4, 3))
        self.assertEqual(stretch_made(None, 10, 3, 2), (None, 8, 3, 2))
        self.assertEqual(stretch_made(-10, None, 3, 2), (-10, None, 3, 2))
        self.assertEqual(stretch_made(None, None, 3, 2), (None, None, 3, 2))
        self.assertEqual(stretch_made(None, None, 1, 0), ALL)

    def test_one_value_alone(self):
        self.assertEqual(stretch_made(4, 10, 7, 5), (5, 5, 1, 0))
        self.assertEqual(stretch_made(-3, -3, 1, 0), (-3, -3, 1, 0))
        self.assertEqual(stretch_made(-3, -3, 2, 1), (-3, -3, 1, 0))
        self.assertEqual(stretch_made(0, 6, 7, 0), (0, 0, 1, 0))

    def test_no_values(self):
        self.assertIsNone(stretch_made(5, 4, 1, 0))
        self.assertIsNone(stretch_made(6, 8, 5, 0))
        self.assertIsNone(stretch_made(-4, -1, 5, 0))

    def test_a_rest_that_no_value_leaves(self):
        for rest in (-1, 5, 6, -GREAT, GREAT):
            self.assertIsNone(stretch_made(None, None, 5, rest))
            self.assertIsNone(stretch_made(-10, 10, 5, rest))

    def test_great_numbers(self):
        self.assertEqual(stretch_made(-GREAT, GREAT, 1, 0), (-GREAT, GREAT, 1, 0))
        step = GREAT - 10
        self.assertEqual(stretch_made(-GREAT, GREAT, step, 3), (3 - step, 3 + step, step, 3))
        self.assertEqual(stretch_made(1, GREAT, GREAT, 0), (GREAT, GREAT, 1, 0))
        self.assertIsNone(stretch_made(1, GREAT - 1, GREAT, 0))

    def test_what_was_made_stays_as_it_is(self):
        for one in STRETCHES:
            self.assertEqual(stretch_made(*one), one)

    def test_the_same_values_are_the_same_tuple(self):
        seen = {}
        for low, high, step in itertools.product((-6, -5, 0, 1, 7), (0, 2, 7, 8), (1, 2, 3, 4)):
            for rest in range(step):
                values = tuple(v for v in WINDOW if among(v, low, high, step, rest))
                one = stretch_made(low, high, step, rest)
                self.assertEqual(seen.setdefault(values, one), one)
        self.assertEqual(len(set(seen.values())), len(seen))


class Asked(Form):
    def test_has(self):
        for one in STRETCHES:
            for v in WINDOW + [FAR, FAR + 1, -FAR, -FAR - 1]:
                self.assertIs(stretch_has(one, v), has(one, v))
        self.assertIs(stretch_has((None, GREAT, GREAT - 1, 1), GREAT), True)
        self.assertIs(stretch_has((None, GREAT, GREAT - 1, 1), GREAT - 1), False)

    def test_low_and_high(self):
        self.assertEqual(stretch_low((-3, 9, 4, 1)), -3)
        self.assertEqual(stretch_high((-3, 9, 4, 1)), 9)
        self.assertIsNone(stretch_low((None, 9, 4, 1)))
        self.assertIsNone(stretch_high((-3, None, 4, 1)))
        self.assertEqual((stretch_low((0, 0, 1, 0)), stretch_high((0, 0, 1, 0))), (0, 0))

    def test_inside(self):
        for one, other in itertools.product(STRETCHES, STRETCHES):
            wanted = all(has(other, v) for v in WINDOW if has(one, v))
            self.assertIs(stretch_inside(one, other), wanted, (one, other))

    def test_inside_of_great_ones(self):
        self.assertIs(stretch_inside((-GREAT, GREAT, 2, 1), ALL), True)
        self.assertIs(stretch_inside((1, GREAT, 2, 1), (1, GREAT - 2, 2, 1)), False)
        self.assertIs(stretch_inside((None, None, 6 * 10 ** 150, 10 ** 150), (None, None, 10 ** 150, 0)), True)
        self.assertIs(stretch_inside((None, None, 10 ** 150, 0), (None, None, 6 * 10 ** 150, 10 ** 150)), False)


class Changed(Form):
    def test_meet(self):
        for one, other in itertools.product(STRETCHES, FEW):
            wanted = stretch_meet(one, other)
            self.assertValues(wanted, lambda v: has(one, v) and has(other, v), WINDOW + WINDOWS[400::7])
            self.assertEqual(stretch_meet(other, one), wanted)

    def test_meet_of_steps(self):
        for step, other in itertools.product(range(1, 13), range(1, 13)):
            for rest, left in itertools.product(range(step), range(other)):
                met = stretch_meet((None, None, step, rest), (None, None, other, left))
                values = [v for v in range(step * other) if v % step == rest and v % other == left]
                if values:
                    self.assertEqual(met, (None, None, math.lcm(step, other), values[0]))
                else:
                    self.assertIsNone(met)

    def test_moved(self):
        for one, a, b in itertools.product(STRETCHES, (-7, -2, -1, 1, 2, 5), (-11, 0, 3)):
            moved = stretch_moved(one, a, b)
            self.assertValues(
                moved, lambda w: (w - b) % a == 0 and has(one, (w - b) // a), WINDOW + WINDOWS[400::7]
            )
            self.assertIsNotNone(moved)

    def test_back(self):
        for one, a, b in itertools.product(STRETCHES, (-12, -6, -3, -2, -1, 1, 2, 4, 5, 6), (-11, -1, 0, 3)):
            self.assertValues(stretch_back(one, a, b), lambda v: has(one, a * v + b), WINDOW + WINDOWS[400::7])

    def test_back_by_a_factor_of_0(self):
        for one, b in itertools.product(STRETCHES, (-8, -7, 0, 1, 4, 9, 10)):
            self.assertEqual(stretch_back(one, 0, b), ALL if has(one, b) else None)

    def test_above_and_below(self):
        for one, c in itertools.product(STRETCHES, list(range(-12, 13)) + [FAR, -FAR]):
            self.assertValues(stretch_above(one, c), lambda v: has(one, v) and v > c, WINDOW + WINDOWS[400::7])
            self.assertValues(stretch_below(one, c), lambda v: has(one, v) and v < c, WINDOW + WINDOWS[400::7])

    def test_the_bound_itself_is_left_out(self):
        self.assertEqual(stretch_above((0, 9, 3, 0), 3), (6, 9, 3, 0))
        self.assertEqual(stretch_below((0, 9, 3, 0), 6), (0, 3, 3, 0))
        self.assertEqual(stretch_above((0, 9, 3, 0), 6), (9, 9, 1, 0))
        self.assertIsNone(stretch_above((0, 9, 3, 0), 9))
        self.assertIsNone(stretch_below((0, 9, 3, 0), 0))


class Nearest(Form):
    def test_some(self):
        for one in some_stretches((None, -13, -4, -1, 0, 1, 3, 11), (1, 2, 3, 4, 5, 7)):
            self.assertEqual(stretch_some(one), nearest_of(v for v in WINDOW if has(one, v)), one)

    def test_not(self):
        for one in some_stretches((None, -13, -4, -1, 0, 1, 3, 11), (1, 2, 3, 4, 5, 7)):
            for v in range(-14, 15):
                wanted = nearest_of(w for w in WINDOW if has(one, w) and w != v)
                self.assertEqual(stretch_not(one, v), wanted, (one, v))

    def test_of_two_the_greater_one(self):
        self.assertEqual(stretch_some((None, None, 4, 2)), 2)
        self.assertEqual(stretch_some((-2, 2, 4, 2)), 2)
        self.assertEqual(stretch_not((None, None, 1, 0), 0), 1)
        self.assertEqual(stretch_not((None, None, 4, 2), 2), -2)
        self.assertEqual(stretch_not((None, None, 4, 2), -2), 2)

    def test_no_other_value(self):
        self.assertIsNone(stretch_not((7, 7, 1, 0), 7))
        self.assertEqual(stretch_not((7, 7, 1, 0), 8), 7)

    def test_great_ones(self):
        self.assertEqual(stretch_some((GREAT, None, 1, 0)), GREAT)
        self.assertEqual(stretch_some((None, -GREAT, 1, 0)), -GREAT)
        self.assertEqual(stretch_some((None, None, GREAT, GREAT - 1)), -1)
        self.assertEqual(stretch_some((-GREAT, GREAT, 1, 0)), 0)
        self.assertEqual(stretch_not((None, None, GREAT, 5), 5), 5 - GREAT)


class Great(Form):
    """Numbers of up to two hundred figures, which nobody goes through one by one."""

    def setUp(self):
        self.dice = random.Random(20)

    def number(self):
        size = 10 ** self.dice.choice((1, 3, 30, 199, 200))
        return self.dice.randrange(-size + 1, size)

    def stretch(self, bounded):
        while True:
            step = abs(self.number()) + 1
            low = self.number() if bounded and self.dice.random() < 0.7 else None
            high = self.number() if bounded and self.dice.random() < 0.7 else None
            one = stretch_made(low, high, step, self.dice.randrange(step))
            if one is not None:
                return one

    def test_meet(self):
        for _ in range(400):
            one, other = self.stretch(True), self.stretch(True)
            met = stretch_meet(one, other)
            self.assertForm(met)
            self.assertEqual(met, stretch_meet(other, one))
            whole = math.lcm(one[2], other[2])
            if (one[3] - other[3]) % math.gcd(one[2], other[2]):
                self.assertIsNone(met)
                continue
            at = one[3] + one[2] * ((other[3] - one[3]) // math.gcd(one[2], other[2]) * pow(
                one[2] // math.gcd(one[2], other[2]), -1, other[2] // math.gcd(one[2], other[2])))
            lows = [end for end in (one[0], other[0]) if end is not None]
            highs = [end for end in (one[1], other[1]) if end is not None]
            self.assertEqual(met, stretch_made(max(lows, default=None), min(highs, default=None), whole, at % whole))

    def test_moved_and_back(self):
        for _ in range(400):
            one, a, b = self.stretch(True), self.number() or 1, self.number()
            moved = stretch_moved(one, a, b)
            self.assertForm(moved)
            self.assertEqual(stretch_back(moved, a, b), one)
            v = stretch_some(one)
            self.assertTrue(has(moved, a * v + b))
            self.assertFalse(has(moved, a * v + b + 1) and abs(a) > 1)

    def test_back_and_moved(self):
        for _ in range(400):
            one, a, b = self.stretch(True), self.number() or 1, self.number()
            back = stretch_back(one, a, b)
            self.assertForm(back)
            wanted = stretch_meet(one, (None, None, abs(a), b % abs(a)))
            if wanted is None:
                self.assertIsNone(back)
            else:
                self.assertEqual(stretch_moved(back, a, b), wanted)

    def test_above_and_below(self):
        for _ in range(400):
            one, c = self.stretch(True), self.number()
            above, below = stretch_above(one, c), stretch_below(one, c)
            self.assertForm(above)
            self.assertForm(below)
            if above is None:
                self.assertLessEqual(one[1], c)
            else:
                self.assertTrue(has(one, above[0]) and above[0] > c)
                self.assertFalse(has(one, above[0] - one[2]) and above[0] - one[2] > c)
                self.assertEqual(above[1], one[1])
            if below is None:
                self.assertGreaterEqual(one[0], c)
            else:
                self.assertTrue(has(one, below[1]) and below[1] < c)
                self.assertFalse(has(one, below[1] + one[2]) and below[1] + one[2] < c)
                self.assertEqual(below[0], one[0])


if __name__ == "__main__":
    unittest.main()
