"""What can still come to each chain, as boxes (point 21)."""

from latewell.boxes import box_made, row_forth
from latewell.chains import through_froms
from latewell.keysets import EVERY_KEY
from latewell.stretches import stretch_made
from latewell.works import CHAINS


def in_box(row, mark):
    """The box of the things that may come to an in from this time on."""
    return box_made(EVERY_KEY, mark, None, stretch_made(row[3][0], row[3][1], 1, 0))


def in_boxes(row, marks):
    """The boxes of what can still come to an in: one, or none where it is closed."""
    mark = marks[row[1]]
    return [] if mark is None else [in_box(row, mark)]


def forth_boxes(works, marks):
    """A dict: for the name of each chain the list of boxes of what can still come to it."""
    boxes = {}
    for row in works:
        if row[0] == "in":
            boxes[row[1]] = in_boxes(row, marks)
        elif row[0] in CHAINS:
            boxes[row[1]] = through_froms(row, boxes, row_forth)
    return boxes
