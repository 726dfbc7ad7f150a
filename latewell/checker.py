"""Papers of cells looked at row by row (point 27)."""

from latewell.boxes import box_inside, row_forth
from latewell.cells import check_cell, claims_turn
from latewell.chains import through_froms
from latewell.comings import marks_behind
from latewell.errors import NoPaper
from latewell.forth import in_boxes
from latewell.works import chains_below


def is_claimed(box, claims):
    """Whether a box is inside one of the claims."""
    return any([box_inside(box, claim) for claim in claims])


def row_is_right(row, marks, paper):
    """Whether the claims of a chain have all that can come to it, by the marks or by the claims of its FROMs."""
    if row[1] not in paper:
        return False
    boxes = in_boxes(row, marks) if row[0] == "in" else through_froms(row, paper, row_forth)
    return all([is_claimed(box, paper[row[1]]) for box in boxes])


def check_paper(works, comings, ask, key, window, paper):
    """Refuses with NoPaper, at its first wrong row, a paper that does not show that a cell is settled."""
    marks = marks_behind(works, comings)
    check_cell(works, ask, key, window)
    for row in chains_below(works, ask):
        if not row_is_right(row, marks, paper):
            raise NoPaper(row[1])
    if claims_turn(works, comings, ask, key, window, paper):
        raise NoPaper(ask)
