"""Comings, things and marks and closes, and the marks that they must keep (points 13, 14)."""

from latewell.errors import Late, NoComing
from latewell.keysets import is_key
from latewell.stretches import is_between
from latewell.works import row_named


def is_whole(x):
    """Whether x is a whole number; Python counts the truths among its numbers, and here they are none."""
    return isinstance(x, int) and not isinstance(x, bool)


def is_time(x):
    """Whether x is a time: a whole number from 0 on."""
    return is_whole(x) and x >= 0


def is_thing_of(row, thing):
    """Whether a tuple of three is a thing that may come to this in."""
    if not is_time(thing[0]) or not is_key(thing[1]) or not is_whole(thing[2]):
        return False
    return is_between(thing[2], row[3][0], row[3][1])


def is_coming(works, coming):
    """Whether anything at all is a coming of the works' ins."""
    if not isinstance(coming, tuple) or len(coming) < 2:
        return False
    row = row_named(works, coming[1])
    if row is None or row[0] != "in":
        return False
    if coming[0] == "thing":
        return len(coming) == 5 and is_thing_of(row, coming[2:])
    if coming[0] == "mark":
        return len(coming) == 3 and is_time(coming[2])
    return coming[0] == "close" and len(coming) == 2


def first_marks(works):
    """The marks ahead of all comings."""
    marks = {}
    for row in works:
        if row[0] == "in":
            marks[row[1]] = 0
    return marks


def check_coming(works, marks, coming):
    """Refuses with NoComing what is no coming, else with Late what the marks shut out."""
    if not is_coming(works, coming):
        raise NoComing("no coming of these ins")
    mark = marks[coming[1]]
    if mark is None:
        raise Late("the in is closed")
    if coming[0] != "close" and coming[2] < mark:
        raise Late("a time below the mark")


def marked(marks, coming):
    """The marks behind a coming."""
    behind = dict(marks)
    if coming[0] == "mark":
        behind[coming[1]] = coming[2]
    if coming[0] == "close":
        behind[coming[1]] = None
    return behind


def marks_behind(works, comings):
    """The marks behind a row of comings; refused as the first of them that is."""
    marks = first_marks(works)
    for coming in comings:
        check_coming(works, marks, coming)
        marks = marked(marks, coming)
    return marks
