"""Works, comings and things from which several tests draw; nothing here asks the program."""

import itertools

# Rows with one FROM: each word, at the edges of what it may tell.
ONE_FROM_ROWS = [
    ("time", "x", ("y",), (0, None)), ("time", "x", ("y",), (2, 5)), ("time", "x", ("y",), (6, None)),
    ("time", "x", ("y",), (0, 1)), ("time", "x", ("y",), (9, 999999999999)),
    ("only", "x", ("y",), ("a",)), ("only", "x", ("y",), ("c", "a")), ("only", "x", ("y",), ("b", "c", "a")),
    ("but", "x", ("y",), ("a",)), ("but", "x", ("y",), ("c", "b")), ("but", "x", ("y",), ("b", "c", "a")),
    ("span", "x", ("y",), (None, None)), ("span", "x", ("y",), (-3, 4)), ("span", "x", ("y",), (None, 4)),
    ("span", "x", ("y",), (5, None)), ("span", "x", ("y",), (-5, -5)), ("span", "x", ("y",), (-999999999999, 0)),
    ("rest", "x", ("y",), (2, 0)), ("rest", "x", ("y",), (3, 2)), ("rest", "x", ("y",), (4, 3)),
    ("rest", "x", ("y",), (1000, 4)), ("rest", "x", ("y",), (1000, 995)),
    ("turn", "x", ("y",), (1, 0)), ("turn", "x", ("y",), (1, -7)), ("turn", "x", ("y",), (-1, 3)),
    ("turn", "x", ("y",), (2, 1)), ("turn", "x", ("y",), (-3, -2)), ("turn", "x", ("y",), (6, 4)),
    ("turn", "x", ("y",), (1000, 0)), ("turn", "x", ("y",), (-1000, 2)),
    ("later", "x", ("y",), (0,)), ("later", "x", ("y",), (1,)), ("later", "x", ("y",), (4,)),
    ("later", "x", ("y",), (8,)), ("later", "x", ("y",), (9,)), ("later", "x", ("y",), (20,)),
    ("put", "x", ("y",), (("a", "b"),)), ("put", "x", ("y",), (("a", "a"),)),
    ("put", "x", ("y",), (("a", "b"), ("b", "a"))), ("put", "x", ("y",), (("b", "c"), ("a", "b"))),
    ("put", "x", ("y",), (("a", "c"), ("b", "c"))), ("put", "x", ("y",), (("c", "a"), ("b", "a"), ("a", "a"))),
]

IN_BOUNDS = ((None, None), (-6, 6), (0, None), (None, 3), (-2, 9))
# Ins with few values, so that all of them can be gone through.
SMALL_BOUNDS = ((-6, 6), (-2, 9), (0, 4), (5, 5))
MOST_CHAINS = 12
# The drawn rows name a to d; "q" stands for all other keys.
ALL_KEYS = ("a", "b", "c", "d", "q")


def by_row(row, thing):
    """What comes of a thing by a row with one FROM, by the very words of point 10; or None."""
    word, name, froms, rest = row
    time, key, value = thing
    if word == "time":
        return thing if rest[0] <= time and (rest[1] is None or time < rest[1]) else None
    if word == "only":
        return thing if key in rest else None
    if word == "but":
        return thing if key not in rest else None
    if word == "span":
        below = rest[0] is not None and value < rest[0]
        above = rest[1] is not None and value > rest[1]
        return None if below or above else thing
    if word == "rest":
        return thing if value % rest[0] == rest[1] else None
    if word == "turn":
        return (time, key, rest[0] * value + rest[1])
    if word == "later":
        return (time + rest[0], key, value)
    return (time, dict(rest).get(key, key), value)


def text_of(works):
    """The text of a works, by the very words of point 10."""
    texts = []
    for word, name, froms, rest in works:
        if word == "put":
            rest = tuple(itertools.chain.from_iterable(rest))
        words = [word, name] + list(froms) + ["*" if value is None else f"{value}" for value in rest]
        texts.append(" ".join(words))
    return "\n".join(texts)


def some_names(dice):
    """Names that are unlike, the words of rows among them."""
    names = ["in", "ask", "sum", "longname", "z", "aa", "ab", "but", "pair"]
    names += [one + other for one in "klmno" for other in "uvwx"]
    dice.shuffle(names)
    return iter(names)


def one_from_rest(dice, word):
    """Something that may stand behind the FROM of a row with one FROM."""
    low = dice.randint(-8, 4)
    if word == "time":
        begin = dice.randint(0, 20)
        return (begin, dice.choice((None, begin + 1, begin + 12)))
    if word in ("only", "but"):
        return tuple(dice.sample("abcd", dice.randint(1, 3)))
    if word == "span":
        return dice.choice(((None, None), (low, None), (None, low + 9), (low, low), (low, low + 9)))
    if word == "rest":
        step = dice.randint(2, 4)
        return (step, dice.randrange(step))
    if word == "turn":
        return (dice.choice((-3, -2, -1, 1, 2)), dice.randint(-5, 5))
    if word == "later":
        return (dice.choice((0, 1, 7)),)
    return tuple((key, dice.choice("abcd")) for key in dice.sample("abc", dice.randint(1, 2)))


def some_parts(dice):
    """Words and rests of two to four rows, by just one of which each thing comes."""
    word = dice.choice(("time", "only", "span", "rest"))
    if word == "time":
        return [(word, (0, 4)), (word, (4, 9)), (word, (9, None))]
    if word == "only":
        return [(word, ("a", "c")), ("but", ("c", "a"))]
    if word == "span":
        return [(word, (None, 0)), (word, (1, None))]
    step = dice.randint(2, 4)
    return [(word, (step, rest)) for rest in range(step)]


def parted_rows(dice, names, below):
    """Rows that part the things of a row, move some of the parts on, and pour them together again."""
    rows, froms = [], []
    for word, rest in some_parts(dice):
        rows.append((word, next(names), (below,), rest))
        if dice.random() < 0.3:
            word = dice.choice(("turn", "later", "put"))
            rows.append((word, next(names), (rows[-1][1],), one_from_rest(dice, word)))
        froms.append(rows[-1][1])
    dice.shuffle(froms)
    return rows + [("pour", next(names), tuple(froms), ())]


def some_chains(dice, names, bounds=IN_BOUNDS, apart=True):
    """Rows of chains, and for the name of each the ins below it; where they are apart, as point 23 asks of a pour."""
    rows, ins = [], {}
    for _ in range(dice.randint(1, 3)):
        name = next(names)
        rows.append(("in", name, (), dice.choice(bounds)))
        ins[name] = {name}
    words = ("time", "only", "but", "span", "rest", "turn", "later", "put", "pour", "parts")
    for _ in range(dice.randint(2, 8)):
        word, first = dice.choice(words), dice.choice(list(ins))
        others = [other for other in ins if other != first and not (apart and ins[other] & ins[first])]
        if word == "parts":
            # Others may be needed behind these, and no works has more than twenty-four rows.
            added = parted_rows(dice, names, first) if len(rows) < 4 else []
        elif word == "pour":
            added = [(word, next(names), (first, dice.choice(others)), ())] if others else []
        else:
            added = [(word, next(names), (first,), one_from_rest(dice, word))]
        for row in added:
            rows.append(row)
            ins[row[1]] = set().union(*[ins[below] for below in row[2]])
        if len(rows) >= MOST_CHAINS:
            break
    return rows, ins


def some_fold(dice, name, chains, pairs):
    """A row of a fold on one of these."""
    word = dice.choice(("fixed", "slide", "gaps", "ever"))
    below = dice.choice(chains if word == "gaps" or not pairs else chains + pairs * 2)
    fold = dice.choice(("count", "most", "least") if below in pairs else ("count", "sum", "most", "least"))
    if word == "slide":
        step = dice.randint(1, 5)
        return (word, name, (below,), (dice.randint(step + 1, 6 * step), step, fold))
    numbers = () if word == "ever" else (dice.choice((1, 2, 5, 9)),)
    return (word, name, (below,), numbers + (fold,))


def some_ask(dice, name, fold, chains):
    """A row of an ask on a row of a fold, with LOW HIGH where that may be."""
    word, below, froms, rest = fold
    bounded = word != "gaps" and froms[0] in chains and rest[-1] != "sum" and dice.random() < 0.5
    if not bounded:
        return ("ask", name, (below,), ())
    low = dice.choice((1, 2, 3)) if rest[-1] == "count" else dice.choice((None, -4, 0, 2))
    return ("ask", name, (below,), (low, dice.choice((None, (low or 0) + 3))))


def some_works(dice, bounds=IN_BOUNDS):
    """A works of up to twenty-four rows."""
    names = some_names(dice)
    rows, ins = some_chains(dice, names, bounds)
    chains, pairs, folds = list(ins), [], []
    for _ in range(dice.randint(0, 2)):
        pairs.append(next(names))
        sides = (dice.choice(chains), dice.choice(chains))
        rows.append(("pair", pairs[-1], sides, (dice.choice((0, 1, 4)), dice.choice("sum less left right".split()))))
    for _ in range(dice.randint(1, 4)):
        folds.append(some_fold(dice, next(names), chains, pairs))
    asks = [some_ask(dice, next(names), dice.choice(folds), chains) for _ in range(dice.randint(1, 5))]
    return rows + folds + asks


def some_thing(dice, begin, low, high):
    """A thing from a time on, with a value between two bounds."""
    low = -9 if low is None else low
    high = 9 if high is None else high
    return (begin + dice.choice((0, 0, 1, 3, 10)), dice.choice("aabbcde"), dice.randint(low, high))


def some_comings(dice, works, count, behind=None):
    """A row of comings that keeps its marks, those that it stands behind where they are not the first ones."""
    bounds = {row[1]: row[3] for row in works if row[0] == "in"}
    marks = {name: 0 for name in bounds}
    if behind is not None:
        marks = {name: mark for name, mark in behind.items() if mark is not None}
    comings = []
    while len(comings) < count and marks:
        name = dice.choice(sorted(marks))
        turn = dice.random()
        if turn < 0.85:
            comings.append(("thing", name) + some_thing(dice, marks[name], *bounds[name]))
        elif turn < 0.97:
            marks[name] += dice.choice((0, 1, 2, 5))
            comings.append(("mark", name, marks[name]))
        else:
            comings.append(("close", name))
            marks.pop(name)
    return comings


def shut_further(dice, marks):
    """Marks and closes behind these marks: some ins some way on, some closed, some left as they are."""
    comings = []
    for name, mark in marks.items():
        word = dice.choice(("mark", "mark", "close", "none"))
        if mark is not None and word != "none":
            comings.append((word, name, mark + dice.choice((1, 3, 6, 10, 20)))[:3 if word == "mark" else 2])
    return comings


def some_marks(dice, works):
    """Marks of the ins of a works, about one in five of them closed."""
    return {row[1]: dice.choice((0, 0, 3, 8, None)) for row in works if row[0] == "in"}


def things_about(boxes, times, values):
    """Things about the ends of boxes, of these times and values alone."""
    for (word, names), begin, end, (low, high, step, rest) in boxes:
        ends = [begin - 1, begin, begin + 1, begin + 5] + ([] if end is None else [end - 1, end, end + 1])
        near = {0, 7}.union(*[{bound - 1, bound, bound + 1, bound + step, bound - step} for bound in (low, high)
                              if bound is not None])
        yield from itertools.product([time for time in ends if time in times], ALL_KEYS,
                                     [value for value in sorted(near) if value in values])


def still_comings(works, marks, end, values):
    """All comings of things that keep the marks, with times below end and values of these."""
    comings = []
    for word, name, froms, rest in works:
        if word == "in" and marks[name] is not None:
            low, high = rest
            mine = [v for v in values if (low is None or low <= v) and (high is None or v <= high)]
            things = itertools.product(range(marks[name], end), ALL_KEYS, mine)
            comings.extend([("thing", name) + thing for thing in things])
    return comings
