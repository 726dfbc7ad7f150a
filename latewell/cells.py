"""Cells, and whether what can still come turns their answers (points 24, 26)."""

from latewell.boxes import box_has, box_made, boxes_met, thing_box
from latewell.comings import is_whole
from latewell.errors import NoCell
from latewell.keysets import is_key
from latewell.plain import amount_of, fold_cells, paired_value, pairs_of, told_answer
from latewell.stretches import EVERY_VALUE, stretch_above, stretch_below, stretch_between, stretch_made, upper_bound
from latewell.works import row_named


def key_box(key, begin, end):
    """The box of all things of a key from begin to below end, or None."""
    return box_made(("only", (key,)), begin, end, EVERY_VALUE)


def window_box(fold, key, window):
    """The box of all things that a cell of a fixed, slide or ever can have, or None."""
    rest = fold[3]
    if fold[0] == "fixed":
        return key_box(key, window * rest[0], (window + 1) * rest[0])
    if fold[0] == "slide":
        return key_box(key, window * rest[1], window * rest[1] + rest[0])
    return key_box(key, 0, None)


def is_cell(fold, key, window):
    """Whether a fold has a cell with this key and window."""
    if not is_key(key) or not is_whole(window):
        return False
    if fold[0] == "ever":
        return window == 0
    if fold[0] == "gaps":
        return window >= 0
    return window_box(fold, key, window) is not None


def check_cell(works, ask, key, window):
    """Refuses with NoCell what is no cell of an ask."""
    row = row_named(works, ask)
    if row is None or row[0] != "ask" or not is_cell(row_named(works, row[2][0]), key, window):
        raise NoCell("no such cell")


def things_in(box, things):
    """Those of the things that the box has, None for no box."""
    if box is None:
        return []
    return [thing for thing in things if box_has(box, thing)]


def amount_in(fold, box, things):
    """What a fixed, slide or ever makes of those of the things that its cell's box has; None of none."""
    values = [thing[2] for thing in things_in(box, things)]
    return amount_of(fold[3][-1], values) if values else None


def values_beyond(fold_word, amount, stretch):
    """Those values of a stretch that are a new most or least beside an amount, None for a cell without things."""
    if amount is None:
        return stretch
    return stretch_above(stretch, amount) if fold_word == "most" else stretch_below(stretch, amount)


def turning_values(ask_row, fold_word, amount, stretch):
    """The stretches of those values of a stretch that turn the answer of a cell with this amount."""
    bounds = ask_row[3] or (None, None)
    if fold_word == "count":
        # A count never falls, so one that has passed HIGH is out for good.
        passed = amount is not None and bounds[1] is not None and amount > bounds[1]
        return [] if passed else [stretch]
    if fold_word == "sum" and amount is None:
        return [stretch]
    if fold_word == "sum":
        parts = [stretch_above(stretch, 0), stretch_below(stretch, 0)]
        return [part for part in parts if part is not None]
    part = values_beyond(fold_word, amount, stretch)
    if part is not None and told_answer(ask_row, amount) is None:
        part = stretch_between(part, bounds[0], bounds[1])
    return [] if part is None else [part]


def turning_boxes(ask_row, fold_word, amount, boxes):
    """The boxes of those things of the boxes, all of them within the cell, whose values turn its answer."""
    found = []
    for box in boxes:
        for stretch in turning_values(ask_row, fold_word, amount, box[3]):
            found.append(box_made(box[0], box[1], box[2], stretch))
    return found


def window_turning(ask_row, fold, box, there, boxes):
    """The boxes of those things of the boxes that turn the answer of a cell of a fixed, slide or ever."""
    return turning_boxes(ask_row, fold[3][-1], amount_in(fold, box, there), boxes_met(boxes, box))


def session_turning(ask_row, fold, key, window, there, boxes):
    """The boxes of those things of the boxes that turn the answer of a cell of a gaps."""
    gap = fold[3][0]
    ahead = key_box(key, window - gap + 1, window)
    session = dict(fold_cells(fold, there)).get((key, window))
    if session is None:
        # One begins there by a thing with this very time, and not behind a thing that is shortly ahead.
        return [] if things_in(ahead, there) else boxes_met(boxes, key_box(key, window, window + 1))
    last = session[0]
    within = boxes_met(boxes, key_box(key, window, last + 1))
    found = turning_boxes(ask_row, fold[3][-1], session[1], within)
    # What comes shortly ahead takes the session in, and what comes shortly behind moves its last time.
    return found + boxes_met(boxes, ahead) + boxes_met(boxes, key_box(key, last + 1, last + gap))


def chain_turning(ask_row, fold, key, window, there, boxes):
    """The boxes of those things of the boxes that turn the answer of a cell of a fold on a chain.

    Each of these things does so alone, where it comes often enough; without them no others do.
    """
    if fold[0] == "gaps":
        return session_turning(ask_row, fold, key, window, there, boxes)
    return window_turning(ask_row, fold, window_box(fold, key, window), there, boxes)


def pairs_into(reach, begin, left, right):
    """Whether a thing of left and one of right are at most reach apart, the later one not ahead of begin."""
    for one, other in ((left, right), (right, left)):
        first = max(one[1], other[1] - reach, begin)
        end = upper_bound(one[2], None if other[2] is None else other[2] + reach)
        if end is None or first < end:
            return True
    return False


def paired_end(how, end, left, right):
    """The least (end 0) or the greatest (end 1) value of the pairs of two stretches, None for no bound."""
    if how == "left" or how == "right":
        return left[end] if how == "left" else right[end]
    other = right[1 - end] if how == "less" else right[end]
    return None if left[end] is None or other is None else paired_value(how, left[end], other)


def some_pair_turns(ask_row, fold_word, pair, begin, amount, sides):
    """Whether a pair of a thing of a left box and one of a right box, sides both lists, turns a cell from begin on."""
    how = pair[3][1]
    for left in sides[0]:
        for right in sides[1]:
            if pairs_into(pair[3][0], begin, left, right):
                # Of the values between the ends some may be no pair's; but a fold on a pair hangs on the ends alone.
                ends = [paired_end(how, end, left[3], right[3]) for end in (0, 1)]
                if turning_values(ask_row, fold_word, amount, stretch_made(ends[0], ends[1], 1, 0)):
                    return True
    return False


def pairs_turn(ask_row, fold, pair, box, there, boxes):
    """Whether a new pair, of two new things or of a new one and one that is there, turns a cell of this box."""
    # A thing behind the cell's times is in no pair of the cell.
    near = box_made(box[0], 0, box[2], box[3])
    lefts = things_in(near, there[0])
    rights = things_in(near, there[1])
    amount = amount_in(fold, box, pairs_of(pair, lefts, rights))
    new_lefts = boxes_met(boxes[0], near)
    new_rights = boxes_met(boxes[1], near)
    any_rights = new_rights + [thing_box(thing) for thing in rights]
    old_lefts = [thing_box(thing) for thing in lefts]
    for sides in ((new_lefts, any_rights), (old_lefts, new_rights)):
        if some_pair_turns(ask_row, fold[3][-1], pair, box[1], amount, sides):
            return True
    return False


def boxes_turn(works, ask, key, window, there, boxes):
    """Whether the answer of a cell could turn if just the things of these boxes could still come to its fold's FROM."""
    check_cell(works, ask, key, window)
    ask_row = row_named(works, ask)
    fold = row_named(works, ask_row[2][0])
    below = row_named(works, fold[2][0])
    if below[0] == "pair":
        return pairs_turn(ask_row, fold, below, window_box(fold, key, window), there, boxes)
    return len(chain_turning(ask_row, fold, key, window, there, boxes)) > 0
