"""Comings that turn a cell, and the marks that settle it (points 25, 26)."""

from latewell.back import back_coming
from latewell.boxes import box_made, box_some
from latewell.cells import cell_rows, chain_turning, check_cell, end_beside, of_from, still_new, things_in
from latewell.cells import turning_twos, window_box
from latewell.checked import origins_of
from latewell.comings import first_marks, marks_behind
from latewell.errors import NoCell
from latewell.forth import forth_boxes
from latewell.plain import chain_things
from latewell.stretches import upper_bound
from latewell.works import row_named


def often_enough(ask_row, fold, key, window, there):
    """How many times a thing of the cell has to come that the answer turns, where it is such a one."""
    if fold[3][-1] != "count" or not ask_row[3]:
        return 1
    return max(1, ask_row[3][0] - len(things_in(window_box(fold, key, window), there)))


def chain_comings(works, marks, rows, key, window, there, boxes):
    """Comings that turn a cell of a fold on a chain, [] where none do."""
    turning = chain_turning(rows[0], rows[1], key, window, there, boxes)
    if not turning:
        return []
    coming = back_coming(works, marks, rows[2][1], box_some(turning[0]))
    return [coming] * often_enough(rows[0], rows[1], key, window, there)


def pair_comings(works, marks, rows, key, window, there, boxes):
    """Comings that turn a cell of a fold on a pair, [] where none do."""
    ways = (still_new(boxes[0]), still_new(boxes[1]))
    twos = turning_twos(rows[0], rows[1], rows[2], window_box(rows[1], key, window), there, ways)
    if not twos:
        return []
    # What these bring to the other side too only adds pairs, and no pair that is added takes a turning back:
    # a count on a pair only grows, a most only rises and a least only falls.
    new = [side for side in (0, 1) if twos[0][side][1] is not None]
    return [back_coming(works, marks, rows[2][2][side], twos[0][2][side]) for side in new]


def cell_turning(works, comings, ask, key, window):
    """A row of one to fifty comings that, behind these, turns the answer of a cell; None where no row does."""
    marks = marks_behind(works, comings)
    check_cell(works, ask, key, window)
    rows = cell_rows(works, ask)
    there = of_from(rows[2], chain_things(works, comings))
    boxes = of_from(rows[2], forth_boxes(works, marks))
    if rows[2][0] == "pair":
        turning = pair_comings(works, marks, rows, key, window, there, boxes)
    else:
        turning = chain_comings(works, marks, rows, key, window, there, boxes)
    return turning if turning else None


def ways_to(works, marks, name):
    """The ways to a chain on which something can still come: tuples (box, (in, later)).

    box has what can still come to the chain on this way, later is by how much it comes later there than at the in.
    """
    ways = []
    # Both have the ways in the same order, and leave out the same ones.
    for origin, box in zip(origins_of(works, name), forth_boxes(works, first_marks(works))[name]):
        later = box[1] - origin[1][1]
        mark = marks[origin[0]]
        still = None if mark is None else box_made(box[0], max(box[1], mark + later), box[2], box[3])
        if still is not None:
            ways.append((still, (origin[0], later)))
    return ways


def mark_shutting(name, way, end):
    """The least mark of an in with which a way has no time below end any more, None where no mark does so."""
    if way is None or way[0] != name or end is None:
        return None
    return end - way[1]


def marks_shutting_chain(works, marks, rows, key, window, there, name):
    """For all that turns a cell of a fold on a chain the least marks of an in that shut it out, None for none."""
    shutting = []
    for box, way in ways_to(works, marks, rows[2][1]):
        for turning in chain_turning(rows[0], rows[1], key, window, there, [box]):
            shutting.append(mark_shutting(name, way, turning[2]))
    return shutting


def marks_shutting_pair(works, marks, rows, key, window, there, name):
    """For each two that turn a cell of a fold on a pair the least mark of an in that shuts them out, None for none."""
    pair = rows[2]
    ways = (ways_to(works, marks, pair[2][0]), ways_to(works, marks, pair[2][1]))
    shutting = []
    for left, right, things in turning_twos(rows[0], rows[1], pair, window_box(rows[1], key, window), there, ways):
        # The last times of both that pair at all pair with one another, so the first of them to go is what counts.
        left_mark = mark_shutting(name, left[1], end_beside(pair[3][0], left[0], right[0]))
        right_mark = mark_shutting(name, right[1], end_beside(pair[3][0], right[0], left[0]))
        shutting.append(upper_bound(left_mark, right_mark))
    return shutting


def settles_at(works, comings, ask, key, window, name):
    """The least mark of an in with which a cell is settled behind the comings; None where no mark does so.

    Where the cell is settled already it is the in's own mark, None of a closed one.
    """
    marks = marks_behind(works, comings)
    check_cell(works, ask, key, window)
    in_row = row_named(works, name)
    if in_row is None or in_row[0] != "in":
        raise NoCell("no such in")
    rows = cell_rows(works, ask)
    there = of_from(rows[2], chain_things(works, comings))
    if rows[2][0] == "pair":
        shutting = marks_shutting_pair(works, marks, rows, key, window, there, name)
    else:
        shutting = marks_shutting_chain(works, marks, rows, key, window, there, name)
    if not shutting:
        return marks[name]
    return None if None in shutting else max(shutting)
