"""Cells, and whether what can still come turns their answers (points 24, 26)."""

from latewell.boxes import box_has, box_made, box_meet, boxes_met, thing_box
from latewell.comings import is_whole
from latewell.errors import NoCell
from latewell.keysets import is_key
from latewell.plain import SHARES, amount_of, chain_things, fold_cells, pairs_of, told_answer
from latewell.stretches import EVERY_VALUE, stretch_above, stretch_back, stretch_below, stretch_between
from latewell.stretches import stretch_meet, stretch_some, upper_bound
from latewell.works import row_named


def key_box(key, begin, end):
    """The box of all things of a key from begin to below end, or None."""
    return box_made(("only", (key,)), begin, end, EVERY_VALUE)


def window_box(fold, key, window):
    """The box of all things that a cell of a fixed, slide or ever can have, or None."""
    rest = fold[3]
    if fold[0] == "fixed":
        return key_box(key, window * rest[0], (window + 1) * rest[0])
    if fold[0] == "slide":
        return key_box(key, window * rest[1], window * rest[1] + rest[0])
    return key_box(key, 0, None)


def is_cell(fold, key, window):
    """Whether a fold has a cell with this key and window."""
    if not is_key(key) or not is_whole(window):
        return False
    if fold[0] == "ever":
        return window == 0
    if fold[0] == "gaps":
        return window >= 0
    return window_box(fold, key, window) is not None


def check_cell(works, ask, key, window):
    """Refuses with NoCell what is no cell of an ask."""
    row = row_named(works, ask)
    if row is None or row[0] != "ask" or not is_cell(row_named(works, row[2][0]), key, window):
        raise NoCell("no such cell")


def things_in(box, things):
    """Those of the things that the box has, None for no box."""
    if box is None:
        return []
    return [thing for thing in things if box_has(box, thing)]


def amount_in(fold, box, things):
    """What a fixed, slide or ever makes of those of the things that its cell's box has; None of none."""
    values = [thing[2] for thing in things_in(box, things)]
    return amount_of(fold[3][-1], values) if values else None


def values_beyond(fold_word, amount, stretch):
    """Those values of a stretch that are a new most or least beside an amount, None for a cell without things."""
    if amount is None:
        return stretch
    return stretch_above(stretch, amount) if fold_word == "most" else stretch_below(stretch, amount)


def turning_values(ask_row, fold_word, amount, stretch):
    """The stretches of those values of a stretch that turn the answer of a cell with this amount."""
    bounds = ask_row[3] or (None, None)
    if fold_word == "count":
        # A count never falls, so one that has passed HIGH is out for good.
        passed = amount is not None and bounds[1] is not None and amount > bounds[1]
        return [] if passed else [stretch]
    if fold_word == "sum" and amount is None:
        return [stretch]
    if fold_word == "sum":
        parts = [stretch_above(stretch, 0), stretch_below(stretch, 0)]
        return [part for part in parts if part is not None]
    part = values_beyond(fold_word, amount, stretch)
    if part is not None and told_answer(ask_row, amount) is None:
        part = stretch_between(part, bounds[0], bounds[1])
    return [] if part is None else [part]


def turning_boxes(ask_row, fold_word, amount, boxes):
    """The boxes of those things of the boxes, all of them within the cell, whose values turn its answer."""
    found = []
    for box in boxes:
        for stretch in turning_values(ask_row, fold_word, amount, box[3]):
            found.append(box_made(box[0], box[1], box[2], stretch))
    return found


def window_turning(ask_row, fold, box, there, boxes):
    """The boxes of those things of the boxes that turn the answer of a cell of a fixed, slide or ever."""
    return turning_boxes(ask_row, fold[3][-1], amount_in(fold, box, there), boxes_met(boxes, box))


def session_turning(ask_row, fold, key, window, there, boxes):
    """The boxes of those things of the boxes that turn the answer of a cell of a gaps."""
    gap = fold[3][0]
    ahead = key_box(key, window - gap + 1, window)
    session = dict(fold_cells(fold, there)).get((key, window))
    if session is None:
        # One begins there by a thing with this very time, and not behind a thing that is shortly ahead.
        return [] if things_in(ahead, there) else boxes_met(boxes, key_box(key, window, window + 1))
    last = session[0]
    within = boxes_met(boxes, key_box(key, window, last + 1))
    found = turning_boxes(ask_row, fold[3][-1], session[1], within)
    # What comes shortly ahead takes the session in, and what comes shortly behind moves its last time.
    return found + boxes_met(boxes, ahead) + boxes_met(boxes, key_box(key, last + 1, last + gap))


def chain_turning(ask_row, fold, key, window, there, boxes):
    """The boxes of those things of the boxes that turn the answer of a cell of a fold on a chain.

    Each of these things does so alone, where it comes often enough; without them no others do.
    """
    if fold[0] == "gaps":
        return session_turning(ask_row, fold, key, window, there, boxes)
    return window_turning(ask_row, fold, window_box(fold, key, window), there, boxes)


def turned_round(two):
    """A tuple of two the other way round, None of None."""
    return None if two is None else (two[1], two[0])


def end_beside(reach, one, other):
    """The end of those times of the box one that are at most reach apart from one of the box other, None for no end."""
    return upper_bound(one[2], None if other[2] is None else other[2] + reach)


def times_beside(reach, begin, one, other):
    """A time of the box one, not ahead of begin, and one of the box other, at most reach apart; or None."""
    first = max(one[1], other[1] - reach, begin)
    end = end_beside(reach, one, other)
    if end is not None and first >= end:
        return None
    return (first, max(other[1], first - reach))


def times_into(reach, begin, left, right):
    """A time of each of two boxes, at most reach apart, the later one not ahead of begin; or None."""
    return times_beside(reach, begin, left, right) or turned_round(times_beside(reach, begin, right, left))


def values_at_ends(stretch):
    """The least and the greatest value of a stretch, as far as there are such; some value where there is none."""
    ends = [end for end in stretch[:2] if end is not None]
    return ends if ends else [stretch_some(stretch)]


def values_beside(shares, wanted, one, other):
    """A value of the stretch one, and one at an end of the stretch other, whose pair has a wanted value; or None."""
    for value in values_at_ends(other):
        fit = stretch_back(wanted, shares[0], shares[1] * value)
        met = None if fit is None else stretch_meet(one, fit)
        if met is not None:
            return (stretch_some(met), value)
    return None


def values_into(how, wanted, left, right):
    """A value of each of two stretches whose pair has a wanted value, wanted a stretch with one bound or none; or None.

    Where a side has no bound towards the wanted values, any value of the other one is good, else its own value
    at that bound is the best one: so the ends of one side, and then of the other, are all that need be tried.
    """
    shares = SHARES[how]
    found = values_beside(shares, wanted, left, right)
    return found or turned_round(values_beside(turned_round(shares), wanted, right, left))


def turning_two(pair, begin, wanted, left, right):
    """A thing of each of two boxes of one key whose pair has a wanted value and comes not ahead of begin; or None."""
    times = times_into(pair[3][0], begin, left, right)
    if times is None:
        return None
    values = values_into(pair[3][1], wanted, left[3], right[3])
    if values is None:
        return None
    key = left[0][1][0]
    return ((times[0], key, values[0]), (times[1], key, values[1]))


def side_near(near, there, ways):
    """What of one side of a pair is in a box: tuples (box, way), way None for each thing that is there."""
    side = [(box_meet(box, near), way) for box, way in ways]
    return [one for one in side if one[0] is not None] + [(thing_box(thing), None) for thing in there]


def turning_twos(ask_row, fold, pair, box, there, ways):
    """Which two, of what is there and what can still come, turn a cell of this box: tuples (left, right, things).

    there is a tuple of two lists of things, ways one of two lists of tuples (box, way), of LEFT and RIGHT, way
    whatever is not None. left and right are such tuples too, way None for a thing that is there; things are two
    of theirs whose pair turns the cell.
    """
    # A thing behind the cell's times is in no pair of the cell.
    near = box_made(box[0], 0, box[2], box[3])
    lefts = things_in(near, there[0])
    rights = things_in(near, there[1])
    amount = amount_in(fold, box, pairs_of(pair, lefts, rights))
    wanted = turning_values(ask_row, fold[3][-1], amount, EVERY_VALUE)[0]
    any_rights = side_near(near, rights, ways[1])
    found = []
    for left in side_near(near, lefts, ways[0]):
        for right in any_rights:
            # Two that are there have made their pair.
            new = left[1] is not None or right[1] is not None
            things = turning_two(pair, box[1], wanted, left[0], right[0]) if new else None
            if things is not None:
                found.append((left, right, things))
    return found


def still_new(boxes):
    """Boxes as ways, all of them of what can still come."""
    return [(box, True) for box in boxes]


def cell_rows(works, ask):
    """The row of an ask, that of its fold, and that of the fold's FROM."""
    ask_row = row_named(works, ask)
    fold = row_named(works, ask_row[2][0])
    return (ask_row, fold, row_named(works, fold[2][0]))


def of_from(below, by_names):
    """What a dict by the names of chains has of a fold's FROM: of a pair a tuple of two, of LEFT and RIGHT."""
    if below[0] == "pair":
        return (by_names[below[2][0]], by_names[below[2][1]])
    return by_names[below[1]]


def boxes_turn(works, ask, key, window, there, boxes):
    """Whether the answer of a cell could turn if just the things of these boxes could still come to its fold's FROM."""
    check_cell(works, ask, key, window)
    rows = cell_rows(works, ask)
    if rows[2][0] == "pair":
        ways = (still_new(boxes[0]), still_new(boxes[1]))
        found = turning_twos(rows[0], rows[1], rows[2], window_box(rows[1], key, window), there, ways)
    else:
        found = chain_turning(rows[0], rows[1], key, window, there, boxes)
    return len(found) > 0


def claims_turn(works, comings, ask, key, window, claims):
    """Whether a cell could turn behind these comings if just the claims, boxes by the names of chains, could come."""
    below = cell_rows(works, ask)[2]
    there = of_from(below, chain_things(works, comings))
    return boxes_turn(works, ask, key, window, there, of_from(below, claims))
