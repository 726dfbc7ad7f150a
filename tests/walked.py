"""What the document's words tell, gone through one by one; nothing here asks the program."""

import itertools

from samples import by_row

NO_CHAINS = ("pair", "fixed", "slide", "gaps", "ever", "ask")


def in_box(box, thing):
    """Whether a thing is one of the box, by the very words of points 4, 7 and 8; None for no box."""
    if box is None:
        return False
    (word, names), begin, end, (low, high, step, rest) = box
    time, key, value = thing
    return (
        (key in names) == (word == "only") and begin <= time and (end is None or time < end)
        and (low is None or low <= value) and (high is None or value <= high) and value % step == rest
    )


def chains_of(works):
    """The names of the chains of a works."""
    return [row[1] for row in works if row[0] not in NO_CHAINS]


def walked(works, coming):
    """What one coming brings to each chain: a dict of lists of things."""
    things = {}
    for row in works:
        word, name, froms, rest = row
        if word == "in":
            things[name] = [coming[2:]] if coming[:2] == ("thing", name) else []
        elif word == "pour":
            things[name] = [thing for below in froms for thing in things[below]]
        elif word not in NO_CHAINS:
            found = [by_row(row, thing) for thing in things[froms[0]]]
            things[name] = [thing for thing in found if thing is not None]
    return things


def all_brought(works, comings):
    """What comings bring to each chain: a dict of sorted lists of things."""
    each = [walked(works, coming) for coming in comings]
    return {name: sorted(thing for one in each for thing in one[name]) for name in chains_of(works)}


def paired(row, lefts, rights):
    """The things of a pair, by the words of point 10."""
    reach, how = row[3]
    pairs = []
    for left, right in itertools.product(lefts, rights):
        if left[1] == right[1] and -reach <= left[0] - right[0] <= reach:
            value = {
                "sum": left[2] + right[2], "less": left[2] - right[2], "left": left[2], "right": right[2],
            }[how]
            pairs.append((left[0] if left[0] > right[0] else right[0], left[1], value))
    return sorted(pairs)


def amount(fold, values):
    values = sorted(values)
    return {"count": len(values), "sum": sum(values), "most": values[-1], "least": values[0]}[fold]


def in_window(row, i, time):
    """Whether a window of a fold has a time, by the words of point 17."""
    if row[0] == "fixed":
        return i * row[3][0] <= time < (i + 1) * row[3][0]
    if row[0] == "slide":
        return i * row[3][1] <= time < i * row[3][1] + row[3][0]
    return i == 0


def session_amount(row, key, i, things):
    """The amount of a cell of a gaps, None of one without things."""
    gap, fold = row[3]
    mine = [thing for thing in things if thing[1] == key]
    times = {thing[0] for thing in mine}
    if i not in times or any(i - gap < time < i for time in times):
        return None
    end = i
    while any(end < time < end + gap for time in times):
        end = min(time for time in times if time > end)
    return (end, amount(fold, [thing[2] for thing in mine if i <= thing[0] <= end]))


def cell_amount(row, key, i, things):
    """The amount of a cell of a fold, None of one without things."""
    if row[0] == "gaps":
        return session_amount(row, key, i, things)
    values = [thing[2] for thing in things if thing[1] == key and in_window(row, i, thing[0])]
    return amount(row[3][-1], values) if values else None


def folded(row, things):
    """The cells of a fold, each window and each key tried one by one."""
    last = max([thing[0] for thing in things], default=0)
    keys = sorted({thing[1] for thing in things})
    cells = [((key, i), cell_amount(row, key, i, things)) for key in keys for i in range(-40, last + 1)]
    return [cell for cell in cells if cell[1] is not None]


def answer(row, told):
    """The answer of an ask of an amount, by the words of point 19."""
    if told is None or not row[3]:
        return told
    low, high = row[3]
    return None if (low is not None and told < low) or (high is not None and told > high) else told


def answers_of(works, comings):
    """The plain answers, from each ask down to the ins."""
    rows = {row[1]: row for row in works}
    things = all_brought(works, comings)
    answers = {}
    for row in works:
        if row[0] != "ask":
            continue
        fold = rows[row[2][0]]
        below = rows[fold[2][0]]
        if below[0] == "pair":
            mine = paired(below, *[things[side] for side in below[2]])
        else:
            mine = things[below[1]]
        cells = [(cell, answer(row, told)) for cell, told in folded(fold, mine)]
        answers[row[1]] = [cell for cell in cells if cell[1] is not None]
    return answers
