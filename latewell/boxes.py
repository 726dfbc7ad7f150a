"""Boxes: the things of some keys, some times and some values, and what rows make of them (points 8, 9).

A thing is a tuple (time, key, value), a box a tuple (keys, begin, end, stretch) in the one form.
"""

from latewell.keysets import EVERY_KEY, keys_hold, keys_inside, keys_meet, keys_put, keys_put_back, keys_some
from latewell.stretches import EVERY_VALUE, stretch_back, stretch_has, stretch_inside, stretch_made
from latewell.stretches import stretch_meet, stretch_moved, stretch_some, upper_bound


def box_made(keys, begin, end, stretch):
    """The box of the things with these keys, times from begin to below end, and values; or None."""
    if keys is None or stretch is None:
        return None
    begin = max(begin, 0)
    if end is not None and end <= begin:
        return None
    return (keys, begin, end, stretch)


def box_has(box, thing):
    """Whether the thing is one of the box."""
    time = thing[0]
    if time < box[1] or (box[2] is not None and time >= box[2]):
        return False
    return keys_hold(box[0], thing[1]) and stretch_has(box[3], thing[2])


def box_meet(one, other):
    """The box of the things that both have, or None."""
    keys = keys_meet(one[0], other[0])
    stretch = stretch_meet(one[3], other[3])
    return box_made(keys, max(one[1], other[1]), upper_bound(one[2], other[2]), stretch)


def box_inside(one, other):
    """Whether each thing of one is one of other."""
    if one[1] < other[1] or upper_bound(one[2], other[2]) != one[2]:
        return False
    return keys_inside(one[0], other[0]) and stretch_inside(one[3], other[3])


def thing_box(thing):
    """The box that has just this thing."""
    return box_made(("only", (thing[1],)), thing[0], thing[0] + 1, stretch_made(thing[2], thing[2], 1, 0))


def box_some(box):
    """A thing of the box: the earliest time, the first key, the value nearest to 0."""
    return (box[1], keys_some(box[0], []), stretch_some(box[3]))


def boxes_met(boxes, other):
    """What each of the boxes has of the other box, None for no box; those that have nothing of it are left out."""
    if other is None:
        return []
    met = [box_meet(box, other) for box in boxes]
    return [box for box in met if box is not None]


def box_sieved(row):
    """The box of all things that a row lets by as they are, None of a row that changes things."""
    word = row[0]
    rest = row[3]
    if word == "time":
        return box_made(EVERY_KEY, rest[0], rest[1], EVERY_VALUE)
    if word == "only" or word == "but":
        return box_made((word, tuple(sorted(rest))), 0, None, EVERY_VALUE)
    if word == "span":
        return box_made(EVERY_KEY, 0, None, stretch_made(rest[0], rest[1], 1, 0))
    if word == "rest":
        return box_made(EVERY_KEY, 0, None, stretch_made(None, None, rest[0], rest[1]))
    return None


def box_later(box, c):
    """The box with all its times c later, times below 0 left out; or None."""
    end = None if box[2] is None else box[2] + c
    return box_made(box[0], box[1] + c, end, box[3])


def row_forth(row, box):
    """The box of the things that come, by a row with one FROM, of those of the box; or None."""
    sieve = box_sieved(row)
    if sieve is not None:
        return box_meet(sieve, box)
    rest = row[3]
    if row[0] == "later":
        return box_later(box, rest[0])
    if row[0] == "turn":
        return box_made(box[0], box[1], box[2], stretch_moved(box[3], rest[0], rest[1]))
    return box_made(keys_put(box[0], rest), box[1], box[2], box[3])


def row_back(row, box):
    """The box of all things of which, by a row with one FROM, one of the box comes; or None."""
    sieve = box_sieved(row)
    if sieve is not None:
        return box_meet(sieve, box)
    rest = row[3]
    if row[0] == "later":
        return box_later(box, -rest[0])
    if row[0] == "turn":
        return box_made(box[0], box[1], box[2], stretch_back(box[3], rest[0], rest[1]))
    return box_made(keys_put_back(box[0], rest), box[1], box[2], box[3])
