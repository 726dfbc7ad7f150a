"""Papers that show of cells that they are settled (point 28)."""

from latewell.cells import check_cell, claims_turn
from latewell.comings import marks_behind
from latewell.forth import forth_boxes
from latewell.works import chains_below


def settled_paper(works, comings, ask, key, window):
    """A paper of a cell that is settled, None of one that is not."""
    marks = marks_behind(works, comings)
    check_cell(works, ask, key, window)
    boxes = forth_boxes(works, marks)
    if claims_turn(works, comings, ask, key, window, boxes):
        return None
    paper = {}
    for row in chains_below(works, ask):
        paper[row[1]] = boxes[row[1]]
    return paper
