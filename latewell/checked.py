"""Where the things of a chain come from, and which works are let by (point 23)."""

from latewell.back import ways_back
from latewell.boxes import box_made, box_meet
from latewell.errors import NoWorks
from latewell.keysets import EVERY_KEY
from latewell.stretches import EVERY_VALUE
from latewell.works import CHAINS


def origins_of(works, name):
    """For each way from an in to a chain a tuple (in, box): the things of the in that come to it on this way."""
    return ways_back(works, name, box_made(EVERY_KEY, 0, None, EVERY_VALUE))


def one_comes_twice(origins):
    """Whether one thing of an in is in two of the origins."""
    for number, origin in enumerate(origins):
        for other in origins[:number]:
            if origin[0] == other[0] and box_meet(origin[1], other[1]) is not None:
                return True
    return False


def check_works(works):
    """Refuses with NoWorks, at its first wrong row, a works whose ways meet or that has a chain without things."""
    for number, row in enumerate(works):
        if row[0] in CHAINS:
            origins = origins_of(works, row[1])
            if not origins or (row[0] == "pour" and one_comes_twice(origins)):
                raise NoWorks(number)
