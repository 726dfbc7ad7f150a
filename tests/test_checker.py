"""Papers looked at row by row (point 27, and 3 and 2 for it), held against claims gone through one by one."""

import copy
import itertools
import random
import unittest

from drawn import FAR, drawn, mark, some_cells, some_pair, thing, works_of
from latewell.boxes import box_made
from latewell.cells import boxes_turn
from latewell.checker import check_paper
from latewell.errors import NoPaper
from latewell.forth import forth_boxes
from latewell.papers import settled_paper
from latewell.stretches import stretch_made
from latewell.turns import cell_turning
from samples import ALL_KEYS, by_row
from walked import all_brought, asked, chains_of, marks_of, sides_of

ANY_KEY = ("but", ())
ANY_VALUE = (None, None, 1, 0)
# Each word of a chain once, and values, times and keys that each of them changes or sieves.
ROWS = (
    "in a -50 50", "in b 0 7", "time t a 5 90", "only o t k m n", "but n o n", "span s n -20 20", "rest r s 3 1",
    "turn u r -2 5", "later l u 4", "put x l m z", "pour p x b", "fixed f p 10 most", "ask q f",
)
COMINGS = [thing(3, 2), mark(20), mark(15, "b")]
CHAINS = ("a", "b", "t", "o", "n", "s", "r", "u", "l", "x", "p")


def box(begin, end=None, stretch=ANY_VALUE, keys=ANY_KEY):
    return (keys, begin, end, stretch)


def narrower(one):
    """Boxes that lack just some things of a box: one time, one value, every other value, or one key."""
    keys, begin, end, (low, high, step, rest) = one
    stretches = [
        (-FAR if low is None else low + step, high, step, rest), (low, FAR if high is None else high - step, step, rest),
        (low, high, 2 * step, rest), (low, high, 2 * step, rest + step),
    ]
    found = [box_made(keys, begin, end, stretch_made(*stretch)) for stretch in stretches]
    found.append(box_made(keys, begin + 1, end, one[3]))
    found.append(box_made(keys, begin, FAR if end is None else end - 1, one[3]))
    if keys[0] == "only":
        others = [("only", tuple(name for name in keys[1] if name != gone)) for gone in keys[1] if len(keys[1]) > 1]
    else:
        others = [("but", tuple(sorted(keys[1] + (name,)))) for name in ("k", "yyyyyyyy") if name not in keys[1]]
        others.append(("only", ("k", "m", "z")))
    found += [box_made(other, begin, end, one[3]) for other in others]
    return [box for box in found if box is not None and box != one]


def changed(paper, name, number, boxes):
    """The paper with these boxes in the place of one box of a name."""
    claims = list(paper[name])
    claims[number:number + 1] = boxes
    return {**paper, name: claims}


class Checked(unittest.TestCase):
    WORKS = works_of(*ROWS)
    PAPER = settled_paper(WORKS, COMINGS, "q", "k", 0)

    def wrong(self, paper, works=None, comings=COMINGS, ask="q", key="k", window=0):
        """The name of the row that is told to be wrong, None where the paper is let by."""
        works = self.WORKS if works is None else works
        kept = copy.deepcopy((works, comings, paper))
        try:
            told = check_paper(works, comings, ask, key, window, paper)
        except NoPaper as refused:
            self.assertIs(type(refused), NoPaper)
            self.assertIs(type(refused.name), str)
            told = refused.name
        else:
            self.assertIsNone(told)
        self.assertEqual((works, comings, paper), kept)
        return told


class Rows(Checked):
    def test_the_paper_that_is_told(self):
        self.assertIsNone(self.wrong(self.PAPER))
        self.assertIsNone(self.wrong(dict(reversed(self.PAPER.items()))))

    def test_claims_just_too_narrow(self):
        for name in CHAINS:
            for number, claim in enumerate(self.PAPER[name]):
                less = narrower(claim)
                self.assertGreater(len(less), 5)
                for one in less:
                    self.assertEqual(self.wrong(changed(self.PAPER, name, number, [one])), name, (name, one))
                # All of them together have each thing, but none has them all.
                self.assertEqual(self.wrong(changed(self.PAPER, name, number, less)), name)
                if name == "p":
                    self.assertIsNone(self.wrong(changed(self.PAPER, name, number, less + [claim])))

    def test_times_of_a_claim_in_two_parts(self):
        works = works_of("in a * *", "fixed f a 5 count", "ask q f")
        for claims, wanted in (
            ([box(5)], None), ([box(5, 9), box(9)], "a"), ([box(5, 9), box(5)], None), ([box(5), box(5, 9)], None),
            ([box(6)], "a"), ([box(5, FAR)], "a"), ([], "a"),
            ([box(5, None, (0, None, 1, 0)), box(5, None, (None, 0, 1, 0))], "a"),
            ([box(5, None, (None, None, 2, 0)), box(5, None, (None, None, 2, 1))], "a"),
            ([box(5, None, ANY_VALUE, ("but", ("m",))), box(5, None, ANY_VALUE, ("only", ("m",)))], "a"),
        ):
            self.assertEqual(self.wrong({"a": claims}, works, [mark(5)]), wanted, claims)

    def test_a_missing_name(self):
        for name in CHAINS:
            paper = {other: claims for other, claims in self.PAPER.items() if other != name}
            self.assertEqual(self.wrong(paper), name)
        self.assertEqual(self.wrong({}), "a")
        # Also where nothing can come any more.
        shut = [("close", "a"), ("close", "b")]
        empty = {name: [] for name in CHAINS}
        self.assertIsNone(self.wrong(empty, comings=shut))
        for name in CHAINS:
            paper = {other: [] for other in CHAINS if other != name}
            self.assertEqual(self.wrong(paper, comings=shut), name)

    def test_a_box_left_out(self):
        for name in CHAINS:
            self.assertEqual(self.wrong({**self.PAPER, name: []}), name)
        self.assertEqual(len(self.PAPER["p"]), 2)
        for number in (0, 1):
            self.assertEqual(self.wrong(changed(self.PAPER, "p", number, [])), "p")

    def test_two_wrong_rows(self):
        for first, second in itertools.combinations(CHAINS, 2):
            for one, other in itertools.product(("narrow", "none", "gone"), repeat=2):
                paper = dict(self.PAPER)
                for name, sort in ((second, other), (first, one)):
                    if sort == "gone":
                        paper.pop(name)
                    else:
                        paper[name] = [] if sort == "none" else [narrower(paper[name][0])[0]] + paper[name][1:]
                self.assertEqual(self.wrong(paper), first, (first, second, one, other))

    def test_a_wrong_row_ahead_of_the_ask(self):
        turning = {**self.PAPER, "p": [box(0)]}
        self.assertEqual(self.wrong(turning), "q")
        for name in CHAINS[:-1]:
            self.assertEqual(self.wrong({**turning, name: []}), name)

    def test_wider_claims_ask_for_wider_ones_behind(self):
        behind = {"a": "t", "t": "o", "o": "n", "n": "s", "s": "r", "r": "u", "u": "l", "l": "x", "x": "p", "b": "p"}
        for name, row in behind.items():
            # What the row behind lets by of the wider claim is more than it claims.
            wide = {"o": box(24, 80, ANY_VALUE), "b": box(15, None, (0, 8, 1, 0))}.get(name, box(19, 95))
            self.assertEqual(self.wrong({**self.PAPER, name: self.PAPER[name] + [wide]}), row, name)

    def test_wider_claims_that_the_ask_bears(self):
        for begin, wanted in ((20, "b"), (15, None), (10, None), (9, "q"), (0, "q")):
            self.assertEqual(self.wrong({name: [box(begin)] for name in CHAINS}), wanted)
        wide = {name: [box(10)] for name in CHAINS}
        self.assertIsNone(self.wrong({**wide, "p": [box(10), box(10, 11)]}))
        self.assertIsNone(self.wrong({**wide, "p": [box(12, 14, (5, 5, 1, 0)), box(10)]}))
        self.assertEqual(self.wrong({**wide, "x": [box(11)]}), "x")
        # What comes 4 later comes from 14 on.
        self.assertIsNone(self.wrong({**wide, "l": [box(14)], "x": [box(14)]}))
        self.assertEqual(self.wrong({**wide, "l": [box(15)], "x": [box(14)]}), "l")

    def test_names_of_other_rows(self):
        for name, claims in (("f", [box(0)]), ("q", []), ("zz", [box(0)]), ("", None), ("K", 7), ("in", "text"), (None, [box(0)]),
                             (7, {})):
            self.assertIsNone(self.wrong({**self.PAPER, name: claims}))
            self.assertIsNone(self.wrong({name: claims, **self.PAPER}))
            self.assertEqual(self.wrong({**self.PAPER, name: claims, "s": []}), "s")
        works = works_of("in a * *", "in b * *", "later l b 1", "fixed f a 5 count", "ask q f", "fixed g l 5 count", "ask r g")
        paper = {"a": [box(5)]}
        for more in ({}, {"b": []}, {"l": [box(7)]}, {"b": [box(9)], "l": []}, {"r": [], "g": []}):
            self.assertIsNone(self.wrong({**paper, **more}, works, [mark(5)]))
            # To the other ask the rows of this one are other ones.
            self.assertEqual(self.wrong({**paper, **more}, works, [mark(5)], "r"), "b")

    def test_works_order(self):
        works = works_of("in z * *", "in b * *", "later y b 1", "later c z 1", "pour a c y", "fixed f a 5 count", "ask q f")
        paper = settled_paper(works, [("mark", "z", 9), ("mark", "b", 9)], "q", "k", 0)
        for first, second in itertools.combinations("zbyca", 2):
            less = {**paper, first: [], second: []}
            self.assertEqual(self.wrong(less, works, [("mark", "z", 9), ("mark", "b", 9)]), first)


class Asks(Checked):
    def assertBorne(self, rows, comings, window, borne, turning, key="k"):
        """That of the paper's claims for one in some are borne by the ask, and others turn the cell."""
        works = works_of(*rows)
        for claim in borne:
            self.assertIsNone(self.wrong({"a": [claim]}, works, comings, key=key, window=window), claim)
        for claim in turning:
            self.assertEqual(self.wrong({"a": [claim]}, works, comings, key=key, window=window), "q", claim)
            self.assertEqual(self.wrong({"a": [borne[0], claim]}, works, comings, key=key, window=window), "q", claim)

    def test_times(self):
        for fold, window, end in (("fixed f a 5 count", 1, 10), ("slide f a 5 2 sum", 1, 7), ("slide f a 5 2 most", -2, 1)):
            rows = ("in a * *", fold, "ask q f")
            self.assertBorne(rows, [mark(end)], window, [box(end)], [box(end - 1), box(0)])
            self.assertBorne(rows, [mark(end + 5)], window, [box(end), box(end + 5)], [box(end - 1)])
        there = [thing(10, 2), thing(13, 5)]
        for word in ("count", "sum", "most", "least"):
            self.assertBorne(("in a * *", f"gaps f a 5 {word}", "ask q f"), there + [mark(20)], 10, [box(20), box(18)], [box(17)])
        self.assertBorne(("in a * *", "gaps f a 5 count", "ask q f"), there + [mark(30)], 20, [box(30), box(21)], [box(20)])
        self.assertBorne(("in a * *", "gaps f a 5 count", "ask q f"), there, 11, [box(0)], [])

    def test_keys(self):
        without = box(0, None, ANY_VALUE, ("but", ("k",)))
        rows = ("in a * *", "ever f a count", "ask q f")
        self.assertBorne(rows, [("close", "a")], 0, [without, box(0, None, ANY_VALUE, ("only", ("m",)))], [box(0), box(9, 10)])
        self.assertBorne(rows, [("close", "a")], 0, [box(0, None, ANY_VALUE, ("only", ("k",)))], [without], "m")

    def test_values(self):
        def of(*stretch):
            return box(0, None, stretch)
        rows = ("in a 0 5", "ever f a {}", "ask q f")
        for word, comings, borne, turning in (
            ("most", [thing(1, 5)], [of(0, 5, 1, 0), of(None, 5, 1, 0)], [of(0, 6, 1, 0), of(0, None, 1, 0)]),
            ("least", [thing(1, 0)], [of(0, 5, 1, 0), of(0, None, 1, 0)], [of(-1, 5, 1, 0), of(None, 5, 1, 0)]),
            ("sum", [thing(1, 0), ("close", "a")], [of(0, 0, 1, 0)], [of(0, 1, 1, 0), of(None, None, 7, 0), of(1, 1, 1, 0)]),
        ):
            self.assertBorne([row.format(word) for row in rows], comings, 0, borne, turning)
        rows = ("in a 0 0", "ever f a sum", "ask q f")
        of_another_key = box(0, 9, (1, 1, 1, 0), ("only", ("m",)))
        self.assertBorne(rows, [("close", "a")], 0, [of_another_key], [box(0, 9, (0, 0, 1, 0))])

    def test_bounds(self):
        for word, bounds, values in (("count", "1 2", (1, 1, 1)), ("most", "0 5", (6,)), ("least", "0 5", (-1,))):
            rows = ("in a * *", f"ever f a {word}", f"ask q f {bounds}")
            self.assertBorne(rows, [thing(1, value) for value in values], 0, [box(0)], [])
        rows = ("in a * *", "ever f a most", "ask q f 0 5")
        self.assertBorne(rows, [thing(1, -3), ("close", "a")], 0, [box(0, None, (None, -1, 1, 0)), box(0, None, (6, None, 1, 0))],
                         [box(0, None, (None, 0, 1, 0)), box(0, None, (5, 6, 1, 0))])
        rows = ("in a * *", "ever f a count", "ask q f 50 50")
        self.assertBorne(rows, [thing(1), ("close", "a")], 0, [box(0, 9, ANY_VALUE, ("but", ("k",)))], [box(0, 1)])

    def test_both_sides_of_a_pair(self):
        works = works_of("in a * *", "in b * *", "pair p a b 3 sum", "fixed f p 5 count", "ask q f")
        comings = [thing(6), ("close", "a"), ("close", "b")]
        for left, right, wanted in (
            ([], [], None), ([box(0)], [], None), ([], [box(10)], None), ([], [box(9)], "q"), ([], [box(0, 3)], None),
            ([], [box(0, 4)], "q"), ([box(0, 3)], [box(10)], None), ([box(2, 3)], [box(2, 3)], None),
            ([box(20)], [box(20)], None), ([box(0)], [box(10)], None),
            ([], [box(0, None, ANY_VALUE, ("but", ("k",)))], None), ([box(7, 8)], [box(0, 1)], None),
        ):
            self.assertEqual(self.wrong({"a": left, "b": right}, works, comings, window=1), wanted, (left, right))
        for left, right, wanted in (
            ([box(7, 8)], [box(4, 5)], "q"), ([box(7, 8)], [box(3, 4)], None), ([box(9)], [box(6, 7)], "q"),
            ([box(9)], [box(5, 6)], None), ([box(4, 5)], [box(4, 5)], None), ([box(4, 5)], [box(5, 6)], "q"),
        ):
            self.assertEqual(self.wrong({"a": left, "b": right}, works, comings[1:], window=1), wanted, (left, right))
            self.assertEqual(self.wrong({"a": right, "b": left}, works, comings[1:], window=1), wanted, (left, right))

    def test_one_row_on_both_sides(self):
        works = works_of("in a * *", "pair p a a 3 sum", "fixed f p 5 count", "ask q f")
        self.assertIsNone(self.wrong({"a": [box(10)]}, works, [thing(9), mark(12)], window=1))
        self.assertEqual(self.wrong({"a": [box(9)]}, works, [mark(12)], window=1), "q")

    def test_a_cell_that_is_not_settled(self):
        works = works_of("in a * *", "later l a 2", "fixed f l 5 count", "ask q f")
        comings = [thing(1), mark(2)]
        self.assertIsNone(settled_paper(works, comings, "q", "k", 0))
        boxes = forth_boxes(works, {"a": 2})
        self.assertEqual(self.wrong(boxes, works, comings), "q")
        self.assertEqual(self.wrong({**boxes, "l": [box(5)]}, works, comings), "l")
        self.assertEqual(self.wrong({"a": [box(3)], "l": [box(5)]}, works, comings), "a")
        self.assertEqual(self.wrong({"a": [], "l": []}, works, comings), "a")
        self.assertIsNone(self.wrong({"a": [box(3)], "l": [box(5)]}, works, comings + [mark(3)]))


AXES = (ALL_KEYS + ("yyyyyyyy",), range(0, 90), range(-400, 401))


def axes_of(claim):
    """The keys, times and values of a box, each by itself, as far as the axes go."""
    (word, names), begin, end, (low, high, step, rest) = claim
    keys = [key for key in AXES[0] if (key in names) == (word == "only")]
    times = [time for time in AXES[1] if begin <= time and (end is None or time < end)]
    values = [value for value in AXES[2] if (low is None or low <= value) and (high is None or value <= high)]
    return keys, times, [value for value in values if value % step == rest]


def by_axes(row, axes):
    """What comes of keys, times and values by a row, each by itself: no row looks at more than one of them."""
    word = row[0]
    number = {"only": 0, "but": 0, "put": 0, "time": 1, "later": 1, "span": 2, "rest": 2, "turn": 2}[word]
    place = (1, 0, 2)[number]
    found = []
    for one in axes[number]:
        came = [0, "q", 0]
        came[place] = one
        came = by_row(row, tuple(came))
        found.append(None if came is None else came[place])
    found = [one for one in found if one is not None]
    return tuple(found if number == other else axes[other] for other in range(3))


def inside_one(axes, claims):
    """Whether all these keys, times and values are in one of the claims; where one of them lacks, nothing is there."""
    if not all(axes):
        return True
    for (word, names), begin, end, (low, high, step, rest) in claims:
        keys = all((key in names) == (word == "only") for key in axes[0])
        times = all(begin <= time and (end is None or time < end) for time in axes[1])
        bounds = all((low is None or low <= value) and (high is None or value <= high) for value in axes[2])
        if keys and times and bounds and all(value % step == rest for value in axes[2]):
            return True
    return False


def chains_below(works, ask):
    """The chains below an ask, in the works' order."""
    rows = {row[1]: row for row in works}
    below, todo = set(), [ask]
    while todo:
        name = todo.pop()
        below.add(name)
        todo += rows[name][2]
    return [row for row in works if row[1] in below and row[1] in chains_of(works)]


def first_wrong(works, comings, ask, key, window, paper):
    """The name of the first row that is wrong by the words of point 27, or None."""
    marks = marks_of(works, comings)
    for row in chains_below(works, ask):
        word, name, froms, rest = row
        if name not in paper:
            return name
        if word == "in":
            came = [] if marks[name] is None else [axes_of((ANY_KEY, marks[name], None, rest + (1, 0)))]
        else:
            came = [axes_of(claim) for below in froms for claim in paper[below]]
            came = came if word == "pour" else [by_axes(row, axes) for axes in came]
        if not all(inside_one(axes, paper[name]) for axes in came):
            return name
    there = sides_of(works, ask, all_brought(works, comings))
    claims = sides_of(works, ask, paper)
    if asked(works, ask)[2][0] != "pair":
        there, claims = there[0], claims[0]
    return ask if boxes_turn(works, ask, key, window, there, claims) else None


class Drawn(Checked):
    def some_claim(self, dice, claim):
        """A box that is somewhat wider or narrower than another one."""
        keys, begin, end, stretch = claim
        turn = dice.randrange(4)
        if turn == 0:
            begin = max(0, begin + dice.choice((-2, -1, 1)))
        elif turn == 1:
            end = dice.choice((None, end, begin + 1 if end is None else end - 1, None if end is None else end + 1))
        elif turn == 2:
            keys = dice.choice((ANY_KEY, ("but", ("a",)), ("only", ("a", "b")), keys))
        else:
            low, high, step, rest = stretch
            wider = ((low, None, step, rest), (None, high, step, rest), (low, high, 1, 0), ANY_VALUE)
            less = ((low, high, 2 * step, rest), (0 if low is None else low + 1, high, step, rest))
            stretch = stretch_made(*dice.choice(wider + less))
        return box_made(keys, begin, end, stretch) or claim

    def some_paper(self, dice, works, comings):
        """A paper that is right but for the ask, or one with some claims changed, dropped or put in."""
        marks = {name: dice.choice((mark, 0 if mark is None else max(0, mark - dice.randint(0, 5))))
                 for name, mark in marks_of(works, comings).items()}
        paper = forth_boxes(works, marks)
        for _ in range(dice.choice((0, 1, 1, 2))):
            name = dice.choice(sorted(paper))
            turn = dice.random()
            if turn < 0.1:
                paper.pop(name)
            elif paper[name] and turn < 0.2:
                paper[name].pop(dice.randrange(len(paper[name])))
            elif paper[name] and turn < 0.9:
                number = dice.randrange(len(paper[name]))
                paper[name][number] = self.some_claim(dice, paper[name][number])
            else:
                paper[name].append(dice.choice((box(0), box(60), box(0, 9, (3, 3, 1, 0)))))
        return paper

    def looked_at(self, dice, works, comings, ask, key, window):
        """What is told of a drawn paper: "let by", "ask", "row"."""
        paper = self.some_paper(dice, works, comings)
        told = self.wrong(paper, works, comings, ask, key, window)
        self.assertEqual(told, first_wrong(works, comings, ask, key, window, paper), (works, comings, ask, key, window, paper))
        if told is None:
            self.assertIsNone(cell_turning(works, comings, ask, key, window))
            return "let by"
        return "ask" if told == ask else "row"

    def test_drawn_works(self):
        dice = random.Random(101)
        told = {"let by": 0, "ask": 0, "row": 0}
        for works, comings in drawn(dice, 250):
            for ask, key, window in some_cells(dice, works, comings):
                told[self.looked_at(dice, works, comings, ask, key, window)] += 1
        self.assertGreater(min(told.values()), 100)

    def test_pairs_of_one_in(self):
        dice = random.Random(102)
        told = {"let by": 0, "ask": 0, "row": 0}
        for _ in range(400):
            works, comings, window = some_pair(dice)
            told[self.looked_at(dice, works, comings, "q", "k", window)] += 1
        self.assertGreater(min(told.values()), 30)

    def test_no_paper_of_a_cell_that_is_not_settled(self):
        dice = random.Random(103)
        seen = 0
        for works, comings in drawn(dice, 150):
            for ask, key, window in some_cells(dice, works, comings):
                if cell_turning(works, comings, ask, key, window) is not None:
                    papers = [self.some_paper(dice, works, comings) for _ in range(4)]
                    papers += [forth_boxes(works, marks_of(works, comings)), {name: [box(0)] for name in chains_of(works)},
                               {name: [] for name in chains_of(works)}]
                    seen += 1
                    for paper in papers:
                        self.assertIsNotNone(self.wrong(paper, works, comings, ask, key, window))
        self.assertGreater(seen, 100)


if __name__ == "__main__":
    unittest.main()
