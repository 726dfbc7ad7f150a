"""Works that the program lets by, comings and cells, from which the tests of cells draw."""

from latewell.checked import check_works
from latewell.errors import NoWorks
from latewell.works import read_works
from samples import shut_further, some_comings, some_works
from walked import all_brought, asked, folded, folded_things, marks_of, sides_of

FAR = 10 ** 199
FEW_BOUNDS = ((-1, 1), (0, 2), (5, 5), (-3, 3), (0, None))
FOLD_WORDS = ("count", "sum", "most", "least")
HOWS = ("sum", "less", "left", "right")


def works_of(*rows):
    """The works of these rows."""
    works = read_works("\n".join(rows))
    check_works(works)
    return works


def thing(time, value=1, name="a", key="k"):
    return ("thing", name, time, key, value)


def mark(time, name="a"):
    return ("mark", name, time)


# Rows, comings and a window: cells that are settled though an in is open.
SETTLED_THOUGH_OPEN = (
    (("in a * *", "fixed f a 5 sum", "ask q f"), [thing(3), mark(5)], 0),
    (("in a * 4", "ever f a most", "ask q f"), [thing(3, 4)], 0),
    (("in a 0 0", "ever f a sum", "ask q f"), [thing(3, 0)], 0),
    (("in a * *", "ever f a count", "ask q f 1 2"), [thing(3)] * 3, 0),
    (("in a * *", "ever f a most", "ask q f 1 2"), [thing(3, 3)], 0),
    (("in a * *", "later l a 5", "fixed f l 5 count", "ask q f"), [], 0),
    (("in a * *", "time t a 5 *", "fixed f t 5 count", "ask q f"), [], 0),
    (("in a * *", "gaps f a 5 count", "ask q f"), [thing(3), mark(8)], 3),
    (("in a * *", "gaps f a 5 count", "ask q f"), [thing(3)], 4),
    (("in a * *", "in b * *", "pair p a b 3 sum", "fixed f p 5 count", "ask q f"), [mark(5)], 0),
    (("in a * *", "in b * *", "pair p a b 3 sum", "ever f p count", "ask q f"), [("close", "b")], 0),
    (("in a * *", "but n a k", "ever f n count", "ask q f"), [thing(3)], 0),
)


def drawn(dice, count, bounds=FEW_BOUNDS):
    """Works that are let by, each with comings, some of the ins shut by marks behind them."""
    while count > 0:
        works = some_works(dice, bounds)
        try:
            check_works(works)
        except NoWorks:
            continue
        comings = some_comings(dice, works, dice.randint(0, 14))
        yield works, comings + shut_further(dice, marks_of(works, comings))
        count -= 1


def some_cells(dice, works, comings):
    """Of each ask a cell, more often than not one with things."""
    brought = all_brought(works, comings)
    for name in [row[1] for row in works if row[0] == "ask"]:
        row, fold, below = asked(works, name)
        cell = (dice.choice("abcdq"), {"ever": 0, "fixed": dice.randint(0, 4), "slide": dice.randint(0, 5),
                                       "gaps": dice.randint(0, 15)}[fold[0]])
        cells = [told[0] for told in folded(fold, folded_things(below, sides_of(works, name, brought)))]
        if cells and dice.random() < 0.7:
            cell = dice.choice(cells)
        yield (name,) + cell


def some_side(dice, name):
    """Rows from the in a, and maybe b, to one side of a pair."""
    rows, below = [], "a"
    for word in dice.sample(("later", "turn", "time", "pour"), dice.randint(0, 3)):
        begin = dice.randint(0, 6)
        rest = {"later": dice.randint(0, 5), "turn": dice.choice(("-1 0", "2 1")), "pour": "b",
                "time": f"{begin} {dice.choice(('*', begin + 6))}"}[word]
        rows.append(f"{word} {name}{word[:2]} {below} {rest}")
        below = name + word[:2]
    return rows + [f"later {name} {below} {dice.randint(0, 2)}"]


def some_pair(dice):
    """A works with a pair whose sides stand on one in, comings, and a window."""
    values = dice.choice(("-1 1", "0 2", "* *", "0 *"))
    rows = [f"in a {values}", "in b -1 1"] + some_side(dice, "s") + some_side(dice, "t")
    sides = dice.choice(("s t", "s t", "s s"))
    rows.append(f"pair p {sides} {dice.randint(0, 3)} {dice.choice(HOWS)}")
    fold = dice.choice(("fixed f p 5", "slide f p 4 3", "ever f p"))
    rows += [f"{fold} {dice.choice(('count', 'most', 'least'))}", "ask q f"]
    comings = [thing(dice.randint(0, 8), dice.randint(0, 1), dice.choice("aab")) for _ in range(dice.randint(0, 4))]
    shut = [dice.choice((("close", "b"), mark(dice.randint(0, 6), "b"))), mark(dice.randint(0, 9))]
    works = works_of(*rows)
    return works, comings + shut[:dice.randint(0, 2)], 0 if fold.startswith("ever") else dice.randint(0, 2)
