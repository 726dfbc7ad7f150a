"""Works, comings and things from which several tests draw; nothing here asks the program."""

import itertools

# Rows with one FROM: each word, at the edges of what it may tell.
ONE_FROM_ROWS = [
    ("time", "x", ("y",), (0, None)), ("time", "x", ("y",), (2, 5)), ("time", "x", ("y",), (6, None)),
    ("time", "x", ("y",), (0, 1)), ("time", "x", ("y",), (9, 999999999999)),
    ("only", "x", ("y",), ("a",)), ("only", "x", ("y",), ("c", "a")), ("only", "x", ("y",), ("b", "c", "a")),
    ("but", "x", ("y",), ("a",)), ("but", "x", ("y",), ("c", "b")), ("but", "x", ("y",), ("b", "c", "a")),
    ("span", "x", ("y",), (None, None)), ("span", "x", ("y",), (-3, 4)), ("span", "x", ("y",), (None, 4)),
    ("span", "x", ("y",), (5, None)), ("span", "x", ("y",), (-5, -5)), ("span", "x", ("y",), (-999999999999, 0)),
    ("rest", "x", ("y",), (2, 0)), ("rest", "x", ("y",), (3, 2)), ("rest", "x", ("y",), (4, 3)),
    ("rest", "x", ("y",), (1000, 4)), ("rest", "x", ("y",), (1000, 995)),
    ("turn", "x", ("y",), (1, 0)), ("turn", "x", ("y",), (1, -7)), ("turn", "x", ("y",), (-1, 3)),
    ("turn", "x", ("y",), (2, 1)), ("turn", "x", ("y",), (-3, -2)), ("turn", "x", ("y",), (6, 4)),
    ("turn", "x", ("y",), (1000, 0)), ("turn", "x", ("y",), (-1000, 2)),
    ("later", "x", ("y",), (0,)), ("later", "x", ("y",), (1,)), ("later", "x", ("y",), (4,)),
    ("later", "x", ("y",), (8,)), ("later", "x", ("y",), (9,)), ("later", "x", ("y",), (20,)),
    ("put", "x", ("y",), (("a", "b"),)), ("put", "x", ("y",), (("a", "a"),)),
    ("put", "x", ("y",), (("a", "b"), ("b", "a"))), ("put", "x", ("y",), (("b", "c"), ("a", "b"))),
    ("put", "x", ("y",), (("a", "c"), ("b", "c"))), ("put", "x", ("y",), (("c", "a"), ("b", "a"), ("a", "a"))),
]


def by_row(row, thing):
    """What comes of a thing by a row with one FROM, by the very words of point 10; or None."""
    word, name, froms, rest = row
    time, key, value = thing
    if word == "time":
        return thing if rest[0] <= time and (rest[1] is None or time < rest[1]) else None
    if word == "only":
        return thing if key in rest else None
    if word == "but":
        return thing if key not in rest else None
    if word == "span":
        below = rest[0] is not None and value < rest[0]
        above = rest[1] is not None and value > rest[1]
        return None if below or above else thing
    if word == "rest":
        return thing if value % rest[0] == rest[1] else None
    if word == "turn":
        return (time, key, rest[0] * value + rest[1])
    if word == "later":
        return (time + rest[0], key, value)
    return (time, dict(rest).get(key, key), value)


def text_of(works):
    """The text of a works, by the very words of point 10."""
    texts = []
    for word, name, froms, rest in works:
        if word == "put":
            rest = tuple(itertools.chain.from_iterable(rest))
        words = [word, name] + list(froms) + ["*" if value is None else f"{value}" for value in rest]
        texts.append(" ".join(words))
    return "\n".join(texts)


def some_names(dice):
    """Names that are unlike, the words of rows among them."""
    names = ["in", "ask", "sum", "longname", "z", "aa", "ab", "but", "pair"]
    names += [one + other for one in "klmn" for other in "uvwx"]
    dice.shuffle(names)
    return iter(names)


def one_from_rest(dice, word):
    """Something that may stand behind the FROM of a row with one FROM."""
    low = dice.randint(-8, 4)
    if word == "time":
        begin = dice.randint(0, 20)
        return (begin, dice.choice((None, begin + 1, begin + 12)))
    if word in ("only", "but"):
        return tuple(dice.sample("abcd", dice.randint(1, 3)))
    if word == "span":
        return dice.choice(((None, None), (low, None), (None, low + 9), (low, low), (low, low + 9)))
    if word == "rest":
        step = dice.randint(2, 4)
        return (step, dice.randrange(step))
    if word == "turn":
        return (dice.choice((-3, -2, -1, 1, 2)), dice.randint(-5, 5))
    if word == "later":
        return (dice.choice((0, 1, 7)),)
    return tuple((key, dice.choice("abcd")) for key in dice.sample("abc", dice.randint(1, 2)))


def some_chains(dice, names):
    """Rows of chains, and for the name of each the ins below it."""
    rows, ins = [], {}
    for _ in range(dice.randint(1, 3)):
        name = next(names)
        rows.append(("in", name, (), dice.choice(((None, None), (-6, 6), (0, None), (None, 3), (-2, 9)))))
        ins[name] = {name}
    words = ("time", "only", "but", "span", "rest", "turn", "later", "put", "pour")
    for _ in range(dice.randint(2, 8)):
        name, word, first = next(names), dice.choice(words), dice.choice(list(ins))
        apart = [other for other in ins if not ins[other] & ins[first]]
        if word != "pour":
            rows.append((word, name, (first,), one_from_rest(dice, word)))
            ins[name] = ins[first]
        elif apart:
            # No thing of an in may come to a pour by two ways.
            second = dice.choice(apart)
            rows.append((word, name, (first, second), ()))
            ins[name] = ins[first] | ins[second]
    return rows, ins


def some_fold(dice, name, chains, pairs):
    """A row of a fold on one of these."""
    word = dice.choice(("fixed", "slide", "gaps", "ever"))
    below = dice.choice(chains if word == "gaps" or not pairs else chains + pairs * 2)
    fold = dice.choice(("count", "most", "least") if below in pairs else ("count", "sum", "most", "least"))
    if word == "slide":
        step = dice.randint(1, 5)
        return (word, name, (below,), (dice.randint(step + 1, 6 * step), step, fold))
    numbers = () if word == "ever" else (dice.choice((1, 2, 5, 9)),)
    return (word, name, (below,), numbers + (fold,))


def some_ask(dice, name, fold, chains):
    """A row of an ask on a row of a fold, with LOW HIGH where that may be."""
    word, below, froms, rest = fold
    bounded = word != "gaps" and froms[0] in chains and rest[-1] != "sum" and dice.random() < 0.5
    if not bounded:
        return ("ask", name, (below,), ())
    low = dice.choice((1, 2, 3)) if rest[-1] == "count" else dice.choice((None, -4, 0, 2))
    return ("ask", name, (below,), (low, dice.choice((None, (low or 0) + 3))))


def some_works(dice):
    """A works of up to twenty-four rows."""
    names = some_names(dice)
    rows, ins = some_chains(dice, names)
    chains, pairs, folds = list(ins), [], []
    for _ in range(dice.randint(0, 2)):
        pairs.append(next(names))
        sides = (dice.choice(chains), dice.choice(chains))
        rows.append(("pair", pairs[-1], sides, (dice.choice((0, 1, 4)), dice.choice("sum less left right".split()))))
    for _ in range(dice.randint(1, 4)):
        folds.append(some_fold(dice, next(names), chains, pairs))
    asks = [some_ask(dice, next(names), dice.choice(folds), chains) for _ in range(dice.randint(1, 5))]
    return rows + folds + asks


def some_thing(dice, begin, low, high):
    """A thing from a time on, with a value between two bounds."""
    low = -9 if low is None else low
    high = 9 if high is None else high
    return (begin + dice.choice((0, 0, 1, 3, 10)), dice.choice("aabbcde"), dice.randint(low, high))


def some_comings(dice, works, count):
    """A row of comings that keeps its marks."""
    bounds = {row[1]: row[3] for row in works if row[0] == "in"}
    marks = {name: 0 for name in bounds}
    comings = []
    while len(comings) < count and marks:
        name = dice.choice(sorted(marks))
        turn = dice.random()
        if turn < 0.85:
            comings.append(("thing", name) + some_thing(dice, marks[name], *bounds[name]))
        elif turn < 0.97:
            marks[name] += dice.choice((0, 1, 2, 5))
            comings.append(("mark", name, marks[name]))
        else:
            comings.append(("close", name))
            marks.pop(name)
    return comings
