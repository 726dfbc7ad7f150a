"""Stretches: the whole numbers between two bounds that leave one rest (points 4, 5, 6).

A stretch is a tuple (low, high, step, rest) in the one form, so that two stretches
with the same values are the same tuple; None stands for the one without values.
"""

EVERY_VALUE = (None, None, 1, 0)


def stretch_made(low, high, step, rest):
    """The stretch of the values from low to high that leave this rest by step, or None."""
    # No value leaves a rest that is not below the step.
    if not 0 <= rest < step:
        return None
    first = None if low is None else low + (rest - low) % step
    last = None if high is None else high - (high - rest) % step
    if first is None or last is None:
        return (first, last, step, rest)
    if first > last:
        return None
    if first == last:
        return (first, last, 1, 0)
    return (first, last, step, rest)


def stretch_low(one):
    """The least value, or None where there is no bound below."""
    return one[0]


def stretch_high(one):
    """The greatest value, or None where there is no bound above."""
    return one[1]


def is_between(v, low, high):
    """Whether v is not below low and not above high, None for no bound."""
    return (low is None or low <= v) and (high is None or v <= high)


def stretch_has(one, v):
    """Whether v is a value of the stretch."""
    return is_between(v, one[0], one[1]) and v % one[2] == one[3]


def lower_bound(one, other):
    """The bound below that two of them come to, None for no bound."""
    if one is None or other is None:
        return other if one is None else one
    return max(one, other)


def upper_bound(one, other):
    """The bound above that two of them come to, None for no bound."""
    if one is None or other is None:
        return other if one is None else one
    return min(one, other)


def stretch_between(one, low, high):
    """The values of the stretch from low to high, None for no bound; or None."""
    return stretch_made(lower_bound(one[0], low), upper_bound(one[1], high), one[2], one[3])


def stretch_above(one, c):
    """The values greater than c, or None."""
    return stretch_between(one, c + 1, None)


def stretch_below(one, c):
    """The values less than c, or None."""
    return stretch_between(one, None, c - 1)


def stretch_moved(one, a, b):
    """The values a * v + b of the values v of the stretch; a is not 0."""
    ends = [None if end is None else a * end + b for end in one[:2]]
    if a < 0:
        ends = [ends[1], ends[0]]
    step = abs(a) * one[2]
    return stretch_made(ends[0], ends[1], step, (a * one[3] + b) % step)


def divisor_and_factor(a, m):
    """The greatest common divisor g of a and m, and an s with which a * s leaves by m what g leaves."""
    g = a % m
    s = 1
    other = m
    t = 0
    while other != 0:
        times = g // other
        less = g - times * other
        g = other
        other = less
        less = s - times * t
        s = t
        t = less
    return (g, s)


def stretch_back(one, a, b):
    """The values v for which a * v + b is one of the stretch, or None."""
    if a == 0:
        return EVERY_VALUE if stretch_has(one, b) else None
    found = divisor_and_factor(a, one[2])
    divisor = found[0]
    away = one[3] - b
    if away % divisor != 0:
        return None
    step = one[2] // divisor
    ends = [one[0], one[1]] if a > 0 else [one[1], one[0]]
    low = None if ends[0] is None else -((b - ends[0]) // a)
    high = None if ends[1] is None else (ends[1] - b) // a
    return stretch_made(low, high, step, away // divisor * found[1] % step)


def stretch_meet(one, other):
    """The values that both have, or None."""
    # The values of one, but for its bounds, are step * k + rest for all whole k.
    turns = stretch_back(other, one[2], one[3])
    if turns is None:
        return None
    return stretch_between(stretch_moved(turns, one[2], one[3]), one[0], one[1])


def stretch_inside(one, other):
    """Whether each value of one is a value of other."""
    return stretch_meet(one, other) == one


def nearest(values):
    """Of a list the value nearest to 0, of two the greater one; None of no values."""
    return min(values, key=lambda v: (abs(v), -v), default=None)


def stretch_some(one):
    """The value nearest to 0, of two the greater one."""
    above = stretch_above(one, -1)
    below = stretch_below(one, 0)
    ends = [] if above is None else [above[0]]
    if below is not None:
        ends.append(below[1])
    return nearest(ends)


def stretch_not(one, v):
    """Of the values other than v the one nearest to 0, of two the greater one, or None."""
    parts = [stretch_above(one, v), stretch_below(one, v)]
    return nearest([stretch_some(part) for part in parts if part is not None])
