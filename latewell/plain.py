"""The plain answers: all comings gone through from the first one on (points 15 to 20)."""

from latewell.chains import through_froms, through_row
from latewell.stretches import is_between
from latewell.works import CHAINS, FOLDS

# By each HOW, how many times the left and the right value stand in the value of a pair.
SHARES = {"sum": (1, 1), "less": (1, -1), "left": (1, 0), "right": (0, 1)}


def things_of(row, things, comings):
    """The things that came to a chain; things is a dict of those of the rows above, by their names."""
    if row[0] == "in":
        return [coming[2:] for coming in comings if coming[0] == "thing" and coming[1] == row[1]]
    return through_froms(row, things, through_row)


def chain_things(works, comings):
    """A dict: for the name of each chain the sorted list of things that came to it."""
    things = {}
    for row in works:
        if row[0] in CHAINS:
            things[row[1]] = sorted(things_of(row, things, comings))
    return things


def paired_value(how, left, right):
    """The value of the pair of a left and a right value."""
    shares = SHARES[how]
    return shares[0] * left + shares[1] * right


def pairs_of(row, lefts, rights):
    """The sorted list of the things of a pair, one for each two of the lefts and the rights."""
    reach = row[3][0]
    how = row[3][1]
    by_key = {}
    for right in rights:
        by_key.setdefault(right[1], []).append(right)
    pairs = []
    for left in lefts:
        for right in by_key.get(left[1], []):
            if abs(left[0] - right[0]) <= reach:
                pairs.append((max(left[0], right[0]), left[1], paired_value(how, left[2], right[2])))
    return sorted(pairs)


def windows_of(row, time):
    """The windows of a fixed, slide or ever that have this time."""
    rest = row[3]
    if row[0] == "fixed":
        return [time // rest[0]]
    if row[0] == "slide":
        return list(range((time - rest[0]) // rest[1] + 1, time // rest[1] + 1))
    return [0]


def amount_of(fold_word, values):
    """What a fold makes of the values of a cell, at least one."""
    if fold_word == "count":
        return len(values)
    if fold_word == "sum":
        return sum(values)
    return max(values) if fold_word == "most" else min(values)


def window_cells(row, things):
    """The cells of a fixed, slide or ever, in any order."""
    values = {}
    for thing in things:
        for window in windows_of(row, thing[0]):
            values.setdefault((thing[1], window), []).append(thing[2])
    return [(cell, amount_of(row[3][-1], values[cell])) for cell in values]


def sessions_of(gap, things):
    """The sessions of the things, each a list of things in the order of their times."""
    sessions = []
    last = {}
    for thing in sorted(things):
        session = last.get(thing[1])
        if session is None or thing[0] - session[-1][0] >= gap:
            session = []
            last[thing[1]] = session
            sessions.append(session)
        session.append(thing)
    return sessions


def session_cells(row, things):
    """The cells of a gaps, in any order."""
    cells = []
    for session in sessions_of(row[3][0], things):
        amount = amount_of(row[3][-1], [thing[2] for thing in session])
        cells.append(((session[0][1], session[0][0]), (session[-1][0], amount)))
    return cells


def fold_cells(row, things):
    """The sorted list of tuples ((key, window), amount) of all cells of a fold that have a thing."""
    return sorted(session_cells(row, things) if row[0] == "gaps" else window_cells(row, things))


def told_answer(row, amount):
    """The answer of an ask where its cell has this amount, None for a cell without things."""
    if amount is None or not row[3] or is_between(amount, row[3][0], row[3][1]):
        return amount
    return None


def cell_answers(row, cells):
    """The tuples ((key, window), answer) of an ask in those cells where it is not None."""
    answers = [(cell, told_answer(row, amount)) for cell, amount in cells]
    return [told for told in answers if told[1] is not None]


def plain_answers(works, comings):
    """A dict: for the name of each ask the sorted list of tuples ((key, window), answer), where it is not None."""
    things = chain_things(works, comings)
    cells = {}
    answers = {}
    for row in works:
        if row[0] == "pair":
            things[row[1]] = pairs_of(row, things[row[2][0]], things[row[2][1]])
        elif row[0] in FOLDS:
            cells[row[1]] = fold_cells(row, things[row[2][0]])
        elif row[0] == "ask":
            answers[row[1]] = cell_answers(row, cells[row[2][0]])
    return answers
