"""From the things of a chain back to what brings them there (point 22)."""

from latewell.boxes import box_meet, box_some, boxes_met, row_back, thing_box
from latewell.forth import in_box, in_boxes
from latewell.works import row_named


def ways_back(works, name, box):
    """For each way from an in to a chain a tuple (in, box): the things of the in that come as one of the box.

    The ways to a pour stand in the order of its FROMs; those on which nothing comes are left out. The box may
    be None, for no things.
    """
    if box is None:
        return []
    row = row_named(works, name)
    if row[0] == "in":
        met = box_meet(in_box(row, 0), box)
        return [] if met is None else [(name, met)]
    below = box if row[0] == "pour" else row_back(row, box)
    ways = []
    for from_name in row[2]:
        ways.extend(ways_back(works, from_name, below))
    return ways


def back_coming(works, marks, name, thing):
    """A coming that keeps the marks and brings this thing to this chain, or None."""
    for in_name, box in ways_back(works, name, thing_box(thing)):
        still = boxes_met(in_boxes(row_named(works, in_name), marks), box)
        if still:
            return ("thing", in_name) + box_some(still[0])
    return None
