"""What the document's words tell, gone through one by one; nothing here asks the program."""

import itertools
import random

from samples import by_row

NO_CHAINS = ("pair", "fixed", "slide", "gaps", "ever", "ask")


def in_box(box, thing):
    """Whether a thing is one of the box, by the very words of points 4, 7 and 8; None for no box."""
    if box is None:
        return False
    (word, names), begin, end, (low, high, step, rest) = box
    time, key, value = thing
    return (
        (key in names) == (word == "only") and begin <= time and (end is None or time < end)
        and (low is None or low <= value) and (high is None or value <= high) and value % step == rest
    )


def thing_kept(works, marks, coming):
    """Whether a coming of a thing is let by, by the words of points 13 and 14."""
    word, name, time, key, value = coming
    if type(coming) is not tuple or word != "thing" or marks[name] is None:
        return False
    low, high = {row[1]: row[3] for row in works if row[0] == "in"}[name]
    return in_box((("but", ()), marks[name], None, (low, high, 1, 0)), (time, key, value))


def marks_of(works, comings):
    """The marks behind a row of comings that keeps them."""
    marks = {row[1]: 0 for row in works if row[0] == "in"}
    for coming in comings:
        if coming[0] != "thing":
            marks[coming[1]] = coming[2] if coming[0] == "mark" else None
    return marks


def chains_of(works):
    """The names of the chains of a works."""
    return [row[1] for row in works if row[0] not in NO_CHAINS]


def walked(works, coming):
    """What one coming brings to each chain: a dict of lists of things."""
    things = {}
    for row in works:
        word, name, froms, rest = row
        if word == "in":
            things[name] = [coming[2:]] if coming[:2] == ("thing", name) else []
        elif word == "pour":
            things[name] = [thing for below in froms for thing in things[below]]
        elif word not in NO_CHAINS:
            found = [by_row(row, thing) for thing in things[froms[0]]]
            things[name] = [thing for thing in found if thing is not None]
    return things


def all_brought(works, comings):
    """What comings bring to each chain: a dict of sorted lists of things."""
    each = [walked(works, coming) for coming in comings]
    return {name: sorted(thing for one in each for thing in one[name]) for name in chains_of(works)}


def paired(row, lefts, rights):
    """The things of a pair, by the words of point 10."""
    reach, how = row[3]
    pairs = []
    for left, right in itertools.product(lefts, rights):
        if left[1] == right[1] and -reach <= left[0] - right[0] <= reach:
            value = {
                "sum": left[2] + right[2], "less": left[2] - right[2], "left": left[2], "right": right[2],
            }[how]
            pairs.append((left[0] if left[0] > right[0] else right[0], left[1], value))
    return sorted(pairs)


def amount(fold, values):
    values = sorted(values)
    return {"count": len(values), "sum": sum(values), "most": values[-1], "least": values[0]}[fold]


def in_window(row, i, time):
    """Whether a window of a fold has a time, by the words of point 17."""
    if row[0] == "fixed":
        return i * row[3][0] <= time < (i + 1) * row[3][0]
    if row[0] == "slide":
        return i * row[3][1] <= time < i * row[3][1] + row[3][0]
    return i == 0


def session_amount(row, key, i, things):
    """The amount of a cell of a gaps, None of one without things."""
    gap, fold = row[3]
    mine = [thing for thing in things if thing[1] == key]
    times = {thing[0] for thing in mine}
    if i not in times or any(i - gap < time < i for time in times):
        return None
    end = i
    while any(end < time < end + gap for time in times):
        end = min(time for time in times if time > end)
    return (end, amount(fold, [thing[2] for thing in mine if i <= thing[0] <= end]))


def cell_amount(row, key, i, things):
    """The amount of a cell of a fold, None of one without things."""
    if row[0] == "gaps":
        return session_amount(row, key, i, things)
    values = [thing[2] for thing in things if thing[1] == key and in_window(row, i, thing[0])]
    return amount(row[3][-1], values) if values else None


def folded(row, things):
    """The cells of a fold, each window and each key tried one by one."""
    last = max([thing[0] for thing in things], default=0)
    keys = sorted({thing[1] for thing in things})
    cells = [((key, i), cell_amount(row, key, i, things)) for key in keys for i in range(-40, last + 1)]
    return [cell for cell in cells if cell[1] is not None]


def answer(row, told):
    """The answer of an ask of an amount, by the words of point 19."""
    if told is None or not row[3]:
        return told
    low, high = row[3]
    return None if (low is not None and told < low) or (high is not None and told > high) else told


def asked(works, ask):
    """The rows of an ask, of its fold and of the fold's FROM."""
    rows = {row[1]: row for row in works}
    fold = rows[rows[ask][2][0]]
    return rows[ask], fold, rows[fold[2][0]]


def sides_of(works, ask, brought):
    """What was brought to a fold's FROM, one list, or to both sides of a pair, two lists."""
    below = asked(works, ask)[2]
    return [brought[name] for name in (below[2] if below[0] == "pair" else [below[1]])]


def folded_things(below, sides):
    """The things that come to a fold, of those of the sides of its FROM."""
    return paired(below, *sides) if below[0] == "pair" else sides[0]


def answers_of(works, comings):
    """The plain answers, from each ask down to the ins."""
    things = all_brought(works, comings)
    answers = {}
    for name in [row[1] for row in works if row[0] == "ask"]:
        row, fold, below = asked(works, name)
        mine = folded_things(below, sides_of(works, name, things))
        cells = [(cell, answer(row, told)) for cell, told in folded(fold, mine)]
        answers[name] = [cell for cell in cells if cell[1] is not None]
    return answers


def answer_of_sides(works, ask, key, i, sides):
    """The answer of a cell where these things came to its sides."""
    row, fold, below = asked(works, ask)
    return answer(row, cell_amount(fold, key, i, folded_things(below, sides)))


def cell_answer(works, ask, key, i, comings):
    """The answer of a cell behind comings."""
    return answer_of_sides(works, ask, key, i, sides_of(works, ask, all_brought(works, comings)))


def turned_by(works, ask, key, i, comings, pool, twos=1000):
    """Whether comings of a pool, one by one, up to four times, or in twos, turn a cell; so many twos at most."""
    there = sides_of(works, ask, all_brought(works, comings))
    each = set()
    for coming in pool:
        sides = sides_of(works, ask, walked(works, coming))
        each.add(tuple(tuple(thing for thing in side if thing[1] == key) for side in sides))
    each = sorted(each)
    rows = [(one,) * often for one in each for often in (1, 2, 3, 4)]
    if len(each) * (len(each) - 1) // 2 > twos:
        each = random.Random(len(each)).sample(each, int((2 * twos) ** 0.5))
    rows += itertools.combinations(each, 2)
    now = answer_of_sides(works, ask, key, i, there)
    for row in rows:
        more = [side + [thing for one in row for thing in one[number]] for number, side in enumerate(there)]
        if answer_of_sides(works, ask, key, i, more) != now:
            return True
    return False
