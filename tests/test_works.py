"""Works as text (points 10, 11, 12, and 2 for them)."""

import copy
import random
import re
import unittest

from latewell.errors import NoText
from latewell.works import read_works, row_named, rows_below, shown_works
from samples import some_works, text_of

# A works with a row of each sort, on which the rows below are tried.
BASE = """in aa * *
in bb 0 9
only cc aa x
pair pp aa cc 5 sum
fixed fc aa 10 count
fixed fs aa 10 sum
fixed fm aa 10 most
fixed fp pp 10 most
slide sc cc 10 5 count
slide sl aa 10 5 least
ever ec aa count
ever es aa sum
ever em cc most
ever ep pp count
gaps gc aa 5 count
gaps gm aa 5 most
ask qq fc"""
COUNT = len(BASE.split("\n"))
GREAT = 999999999999
# Rows that may stand behind the base, and what they are read to.
RIGHT = [
    ("in n * *", ("in", "n", (), (None, None))),
    ("in n 0 0", ("in", "n", (), (0, 0))),
    ("in n -7 *", ("in", "n", (), (-7, None))),
    ("in n * -7", ("in", "n", (), (None, -7))),
    ("in n -999999999999 999999999999", ("in", "n", (), (-GREAT, GREAT))),
    ("in n 10 100", ("in", "n", (), (10, 100))),
    ("in longname 5 5", ("in", "longname", (), (5, 5))),
    ("in in 1 2", ("in", "in", (), (1, 2))),
    ("in ask * *", ("in", "ask", (), (None, None))),
    ("time n aa 0 *", ("time", "n", ("aa",), (0, None))),
    ("time n aa 0 1", ("time", "n", ("aa",), (0, 1))),
    ("time n cc 7 999999999999", ("time", "n", ("cc",), (7, GREAT))),
    ("only n aa x", ("only", "n", ("aa",), ("x",))),
    ("only n aa h g f e d c b a", ("only", "n", ("aa",), tuple("hgfedcba"))),
    ("only n aa n aa only", ("only", "n", ("aa",), ("n", "aa", "only"))),
    ("but n cc abcdefgh", ("but", "n", ("cc",), ("abcdefgh",))),
    ("but n aa a h b g c f d e", ("but", "n", ("aa",), tuple("ahbgcfde"))),
    ("span n aa * *", ("span", "n", ("aa",), (None, None))),
    ("span n aa -3 -3", ("span", "n", ("aa",), (-3, -3))),
    ("span n aa -4 -3", ("span", "n", ("aa",), (-4, -3))),
    ("span n aa * 0", ("span", "n", ("aa",), (None, 0))),
    ("span n aa 0 *", ("span", "n", ("aa",), (0, None))),
    ("rest n aa 2 0", ("rest", "n", ("aa",), (2, 0))),
    ("rest n aa 2 1", ("rest", "n", ("aa",), (2, 1))),
    ("rest n aa 1000 999", ("rest", "n", ("aa",), (1000, 999))),
    ("turn n aa 1000 0", ("turn", "n", ("aa",), (1000, 0))),
    ("turn n aa -1000 -999999999999", ("turn", "n", ("aa",), (-1000, -GREAT))),
    ("turn n aa 1 999999999999", ("turn", "n", ("aa",), (1, GREAT))),
    ("turn n aa -1 5", ("turn", "n", ("aa",), (-1, 5))),
    ("later n aa 0", ("later", "n", ("aa",), (0,))),
    ("later n aa 999999999999", ("later", "n", ("aa",), (GREAT,))),
    ("put n aa a b", ("put", "n", ("aa",), (("a", "b"),))),
    ("put n aa a a", ("put", "n", ("aa",), (("a", "a"),))),
    ("put n aa b a a b", ("put", "n", ("aa",), (("b", "a"), ("a", "b")))),
    ("put n aa c b b a a c", ("put", "n", ("aa",), (("c", "b"), ("b", "a"), ("a", "c")))),
    ("put n aa d z c z b z a z", ("put", "n", ("aa",), (("d", "z"), ("c", "z"), ("b", "z"), ("a", "z")))),
    ("pour n aa bb", ("pour", "n", ("aa", "bb"), ())),
    ("pour n cc aa bb", ("pour", "n", ("cc", "aa", "bb"), ())),
    ("pair n aa bb 0 sum", ("pair", "n", ("aa", "bb"), (0, "sum"))),
    ("pair n cc aa 999999999999 less", ("pair", "n", ("cc", "aa"), (GREAT, "less"))),
    ("pair n aa aa 3 left", ("pair", "n", ("aa", "aa"), (3, "left"))),
    ("pair n aa cc 3 right", ("pair", "n", ("aa", "cc"), (3, "right"))),
    ("fixed n aa 1 count", ("fixed", "n", ("aa",), (1, "count"))),
    ("fixed n cc 999999999999 sum", ("fixed", "n", ("cc",), (GREAT, "sum"))),
    ("fixed n pp 10 count", ("fixed", "n", ("pp",), (10, "count"))),
    ("fixed n pp 10 most", ("fixed", "n", ("pp",), (10, "most"))),
    ("fixed n pp 10 least", ("fixed", "n", ("pp",), (10, "least"))),
    ("slide n aa 2 1 sum", ("slide", "n", ("aa",), (2, 1, "sum"))),
    ("slide n aa 20 1 most", ("slide", "n", ("aa",), (20, 1, "most"))),
    ("slide n aa 8 7 least", ("slide", "n", ("aa",), (8, 7, "least"))),
    ("slide n aa 140 7 count", ("slide", "n", ("aa",), (140, 7, "count"))),
    ("slide n pp 10 5 least", ("slide", "n", ("pp",), (10, 5, "least"))),
    ("gaps n aa 1 count", ("gaps", "n", ("aa",), (1, "count"))),
    ("gaps n aa 999999999999 sum", ("gaps", "n", ("aa",), (GREAT, "sum"))),
    ("gaps n cc 3 most", ("gaps", "n", ("cc",), (3, "most"))),
    ("gaps n cc 3 least", ("gaps", "n", ("cc",), (3, "least"))),
    ("ever n aa count", ("ever", "n", ("aa",), ("count",))),
    ("ever n aa sum", ("ever", "n", ("aa",), ("sum",))),
    ("ever n aa most", ("ever", "n", ("aa",), ("most",))),
    ("ever n pp least", ("ever", "n", ("pp",), ("least",))),
    ("ask n fc", ("ask", "n", ("fc",), ())),
    ("ask n fs", ("ask", "n", ("fs",), ())),
    ("ask n fp", ("ask", "n", ("fp",), ())),
    ("ask n sl", ("ask", "n", ("sl",), ())),
    ("ask n ep", ("ask", "n", ("ep",), ())),
    ("ask n gm", ("ask", "n", ("gm",), ())),
    ("ask n fc 1 *", ("ask", "n", ("fc",), (1, None))),
    ("ask n fc 1 1", ("ask", "n", ("fc",), (1, 1))),
    ("ask n fc 50 50", ("ask", "n", ("fc",), (50, 50))),
    ("ask n sc 50 999999999999", ("ask", "n", ("sc",), (50, GREAT))),
    ("ask n ec 1 2", ("ask", "n", ("ec",), (1, 2))),
    ("ask n fm * *", ("ask", "n", ("fm",), (None, None))),
    ("ask n fm -5 51", ("ask", "n", ("fm",), (-5, 51))),
    ("ask n fm 51 51", ("ask", "n", ("fm",), (51, 51))),
    ("ask n sl 0 *", ("ask", "n", ("sl",), (0, None))),
    ("ask n em * 0", ("ask", "n", ("em",), (None, 0))),
]
# Rows that may not stand there, by point 10.
NONE_OF_THESE = [
    "", " ", "in", "nothing n aa", "In n * *", "# in n * *", "row in n * *",
    "in n *", "in n * * *", "in n", "in * *", "in n 1", "in N * *", "in n1 * *", "in ninechars * *", "in n_n * *",
    "in n 1 0", "in n 0 -1", "in n 00 1", "in n 01 1", "in n -0 1", "in n -01 1", "in n +1 1", "in n 1- 2", "in n - 2",
    "in n -- 2", "in n --1 2", "in n 1 1.0", "in n 1 1e3", "in n x 1", "in n 1 x", "in n 1_0 20", "in n ** *",
    "in n 1000000000000 *", "in n * 1000000000000", "in n -1000000000000 *", "in n * -1000000000000",
    " in n * *", "in n * * ", "in  n * *", "in n  * *", "in n *  *", "in n *\t*", "in n * *\r", "in\tn * *",
    "time n aa 0", "time n aa 0 1 2", "time n aa -1 5", "time n aa 5 5", "time n aa 5 4", "time n aa * 5",
    "time n aa * *", "time n aa 0 0", "time n aa 00 1", "time n aa 0 1000000000000", "time n aa bb 0 1", "time n 0 1",
    "only n aa", "only n", "only n aa x x", "only n aa x y x", "only n aa X", "only n aa x1", "only n aa *",
    "only n aa abcdefghi", "only n aa a b c d e f g h i", "only n aa 1", "only n aa x ",
    "but n aa", "but n aa y y", "but n aa a b c d e f g h i", "but n aa 0",
    "span n aa 1 0", "span n aa 1", "span n aa", "span n aa 1 2 3", "span n aa x *", "span n 1 2",
    "rest n aa 1 0", "rest n aa 0 0", "rest n aa 2 2", "rest n aa 2 -1", "rest n aa 1001 0", "rest n aa -2 0",
    "rest n aa 1000 1000", "rest n aa * 0", "rest n aa 2 *", "rest n aa 2", "rest n aa 2 0 0",
    "turn n aa 0 0", "turn n aa 1001 0", "turn n aa -1001 0", "turn n aa * 0", "turn n aa 1 *", "turn n aa 1",
    "turn n aa 1 1000000000000", "turn n aa 1 0 0", "turn n aa -0 0",
    "later n aa -1", "later n aa *", "later n aa", "later n aa 1 2", "later n aa 1000000000000",
    "put n aa", "put n aa a", "put n aa a b c", "put n aa a b a c", "put n aa a b c d e f g h i j",
    "put n aa a b c d e f g h i", "put n aa a B", "put n aa a *", "put n aa 1 b", "put n aa a b c d e",
    "pour n", "pour n aa", "pour n aa aa", "pour n aa bb aa", "pour n aa 1", "pour n aa *",
    "pair n aa bb 0", "pair n aa bb sum", "pair n aa bb -1 sum", "pair n aa bb * sum", "pair n aa bb 0 most",
    "pair n aa bb 0 count", "pair n aa 0 sum", "pair n aa bb 0 sum 0", "pair n aa bb cc 0 sum", "pair n aa bb 0 Sum",
    "fixed n aa 0 count", "fixed n aa -1 count", "fixed n aa * count", "fixed n aa 1 less", "fixed n aa 1",
    "fixed n aa count", "fixed n aa 1 count 1", "fixed n aa 1 left", "fixed n aa 1 1 count", "fixed n aa 1 COUNT",
    "slide n aa 1 1 count", "slide n aa 21 1 count", "slide n aa 141 7 count", "slide n aa 7 7 count",
    "slide n aa 6 7 count", "slide n aa 2 0 count", "slide n aa 2 -1 count", "slide n aa 2 count", "slide n aa 0 0 sum",
    "slide n aa -1 -2 count", "slide n aa 2 1", "slide n aa 2 1 mean", "slide n aa * 1 count", "slide n aa 2 * count",
    "gaps n aa 0 count", "gaps n aa -1 count", "gaps n aa * count", "gaps n aa 1", "gaps n aa count", "gaps n aa 1 right",
    "gaps n aa 1 2 count", "ever n aa", "ever n aa 1", "ever n aa 1 count", "ever n aa count count", "ever n aa less",
    "ask n", "ask n fc 1", "ask n fc 1 2 3", "ask n fm 2 1", "ask n fc 2 1", "ask n fc x 1", "ask n fm 1 01", "ask",
]
# Rows that may not stand there, by point 11.
WRONG_BY_ROWS = [
    # the names of all rows are unlike
    "in aa * *", "time aa aa 0 1", "in qq 0 1", "pair pp aa bb 0 sum", "ask qq fc", "ask fc fc", "ever fc aa count",
    # no row of this name, a row below, the row itself
    "time n zz 0 1", "only n zz x", "but n n x", "span n zz 0 1", "rest n zz 2 0", "turn n zz 1 0", "later n n 0",
    "put n zz a b", "pour n aa zz", "pour n zz aa", "pour n aa n", "pair n zz aa 0 sum", "pair n aa zz 0 sum",
    "pair n n aa 0 sum", "fixed n zz 1 count", "slide n zz 2 1 count", "gaps n zz 1 count", "ever n n count",
    "ask n zz", "ask n n", "ask n zz 1 2",
    # chains stand on chains
    "time n pp 0 1", "only n fc x", "but n qq x", "span n pp 0 1", "rest n gc 2 0", "turn n pp 1 0", "later n ec 0",
    "put n sc a b", "pour n aa pp", "pour n fc aa", "pour n aa bb qq",
    # so do both sides of a pair
    "pair n pp aa 0 sum", "pair n aa pp 0 sum", "pair n fc aa 0 sum", "pair n aa qq 0 sum", "pair n pp pp 0 sum",
    # folds stand on chains or pairs, of a pair not with sum, and gaps on chains alone
    "fixed n fc 1 count", "slide n sc 2 1 count", "ever n qq count", "ever n ec count", "gaps n gc 1 count",
    "fixed n pp 1 sum", "slide n pp 2 1 sum", "ever n pp sum", "gaps n pp 1 count", "gaps n pp 1 sum", "gaps n fc 1 most",
    # asks stand on folds
    "ask n aa", "ask n cc", "ask n pp", "ask n qq", "ask n aa 1 2", "ask n pp 1 2", "ask n qq 1 2",
    # those with LOW HIGH not on gaps, not above a pair, not on sum
    "ask n gc 1 2", "ask n gm 1 2", "ask n gm * *", "ask n fp 1 2", "ask n ep 1 2", "ask n ep * *", "ask n fs 1 2",
    "ask n es 1 2", "ask n fs * *",
    # with count LOW is a number from 1 to 50
    "ask n fc 0 1", "ask n fc -1 1", "ask n fc * 1", "ask n fc * *", "ask n sc 51 51", "ask n ec 51 *", "ask n ec 0 *",
]
NUMBER = "(?:0|-?[1-9][0-9]{0,11})"
BOUND = r"(?:\*|0|-?[1-9][0-9]{0,11})"
KEY = "[a-z]{1,8}"
FOLD = "(?:count|sum|most|least)"
FORMS = {
    "in": f"{BOUND} {BOUND}", "time": f"{NUMBER} {BOUND}", "only": f"{KEY}(?: {KEY}){{0,7}}",
    "but": f"{KEY}(?: {KEY}){{0,7}}", "span": f"{BOUND} {BOUND}", "rest": f"{NUMBER} {NUMBER}",
    "turn": f"{NUMBER} {NUMBER}", "later": NUMBER, "put": f"{KEY} {KEY}(?: {KEY} {KEY}){{0,3}}", "pour": "",
    "pair": f"{NUMBER} (?:sum|less|left|right)", "fixed": f"{NUMBER} {FOLD}", "slide": f"{NUMBER} {NUMBER} {FOLD}",
    "gaps": f"{NUMBER} {FOLD}", "ever": FOLD, "ask": f"{BOUND} {BOUND}",
}
FROMS = {"in": "", "pair": f" {KEY} {KEY}", "pour": f"(?: {KEY}){{2,8}}"}


def has_form(text):
    """Whether a row has the form of point 10, but for the bounds between its numbers and names."""
    word = text.split(" ")[0]
    if word not in FORMS:
        return False
    rest = "" if word == "pour" else f" {FORMS[word]}"
    if word == "ask":
        rest = f"(?:{rest})?"
    return re.fullmatch(f"{word} {KEY}{FROMS.get(word, f' {KEY}')}{rest}", text) is not None


def number(word):
    return None if word == "*" else int(word)


def keeps(text):
    """Whether a row that has the form keeps the bounds of point 10."""
    words = text.split(" ")
    word, rest = words[0], words[3:]
    if word in ("in", "span") or (word == "ask" and rest):
        low, high = [number(part) for part in words[-2:]]
        return low is None or high is None or low <= high
    if word == "time":
        return number(rest[0]) >= 0 and (rest[1] == "*" or number(rest[0]) < number(rest[1]))
    if word in ("only", "but"):
        return all(rest.count(key) == 1 for key in rest)
    if word == "rest":
        return int(rest[0]) in range(2, 1001) and int(rest[1]) in range(int(rest[0]))
    if word == "turn":
        return int(rest[0]) in range(-1000, 1001) and rest[0] != "0"
    if word == "later":
        return int(rest[0]) >= 0
    if word == "put":
        return all(rest[::2].count(key) == 1 for key in rest[::2])
    if word == "pour":
        return all(words[2:].count(name) == 1 for name in words[2:])
    if word == "pair":
        return int(rest[1]) >= 0
    if word in ("fixed", "gaps"):
        return int(rest[0]) > 0
    if word == "slide":
        width, step = int(rest[0]), int(rest[1])
        return step > 0 and step < width and width <= 20 * step
    return True


def kind_of(word):
    if word in ("fixed", "slide", "gaps", "ever"):
        return "fold"
    return word if word in ("pair", "ask") else "chain"


def stands(text, above):
    """Whether a row that keeps point 10 keeps point 11 too, behind the rows above it."""
    words = text.split(" ")
    rows = {row.split(" ")[1]: row.split(" ") for row in above}
    froms = {"in": [], "pour": words[2:], "pair": words[2:4]}.get(words[0], words[2:3])
    if words[1] in rows or any(name not in rows for name in froms):
        return False
    kinds = [kind_of(rows[name][0]) for name in froms]
    if words[0] == "ask":
        if kinds != ["fold"] or len(words) == 3:
            return kinds == ["fold"]
        fold = rows[words[2]]
        if fold[0] == "gaps" or kind_of(rows[fold[2]][0]) != "chain" or fold[-1] == "sum":
            return False
        return fold[-1] != "count" or (words[3] != "*" and int(words[3]) in range(1, 51))
    if words[0] in ("fixed", "slide", "ever") and kinds == ["pair"]:
        return words[-1] != "sum"
    return all(kind == "chain" for kind in kinds)


def first_wrong(text):
    """The number of the first wrong row of a text, or None."""
    rows = text.split("\n")
    for at, row in enumerate(rows):
        if at == 24 or not (has_form(row) and keeps(row) and stands(row, rows[:at])):
            return at
    return None


class Works(unittest.TestCase):
    def assertRefused(self, text, at):
        with self.subTest(text=text):
            with self.assertRaises(NoText) as taken:
                read_works(text)
            self.assertIs(type(taken.exception), NoText)
            self.assertEqual(taken.exception.at, at)
            self.assertIs(type(taken.exception.at), int)


class Read(Works):
    def test_the_base(self):
        works = read_works(BASE)
        self.assertEqual(len(works), COUNT)
        self.assertEqual(text_of(works), BASE)

    def test_each_word_to_its_tuple(self):
        for text, row in RIGHT:
            with self.subTest(text=text):
                works = read_works(BASE + "\n" + text)
                self.assertEqual(works[-1], row)
                self.assertEqual(works[:-1], read_works(BASE))
                self.assertEqual(text_of(works[-1:]), text)

    def test_all_words_are_tried(self):
        self.assertEqual({row[0] for text, row in RIGHT}, set(FORMS))

    def test_kinds(self):
        for text, row in RIGHT:
            works = read_works(BASE + "\n" + text)
            self.assertIs(type(works), list)
            for row in works:
                self.assertEqual([type(part) for part in row], [str, str, tuple, tuple])
                self.assertEqual({type(name) for name in row[2]} - {str}, set())
                self.assertIs(type(row), tuple)
                kinds = {tuple} if row[0] == "put" else {int, str, type(None)}
                self.assertEqual({type(part) for part in row[3]} - kinds, set())

    def test_rows_that_are_none_of_these(self):
        for text in NONE_OF_THESE:
            self.assertRefused(BASE + "\n" + text, COUNT)

    def test_rows_that_are_wrong_by_those_above(self):
        for text in WRONG_BY_ROWS:
            self.assertRefused(BASE + "\n" + text, COUNT)

    def test_a_from_below(self):
        self.assertRefused("in a * *\nturn b c 1 0\nturn c a 1 0", 1)
        self.assertRefused("turn b a 1 0\nin a * *", 0)
        self.assertRefused("in a * *\nask q f\never f a count", 1)

    def test_eight_froms_and_one_more(self):
        ins = [f"in n{letter} * *" for letter in "abcdefghi"]
        names = [f"n{letter}" for letter in "abcdefghi"]
        works = read_works("\n".join(ins + ["pour p " + " ".join(names[:8])]))
        self.assertEqual(works[-1], ("pour", "p", tuple(names[:8]), ()))
        self.assertRefused("\n".join(ins + ["pour p " + " ".join(names)]), 9)

    def test_the_text_without_signs(self):
        self.assertRefused("", 0)
        self.assertRefused("\n", 0)
        self.assertRefused(" ", 0)

    def test_rows_without_signs(self):
        self.assertRefused("\nin a * *", 0)
        self.assertRefused("in a * *\n", 1)
        self.assertRefused("in a * *\n\nin b * *", 1)
        self.assertRefused("in a * *\r\nin b * *", 0)

    def test_one_row_alone(self):
        self.assertEqual(read_works("in a * *"), [("in", "a", (), (None, None))])

    def test_what_is_no_text(self):
        for wrong in (None, 0, True, b"in a * *", ["in a * *"], [("in", "a", (), (None, None))], ()):
            self.assertRefused(wrong, 0)


class At(Works):
    def test_the_first_wrong_row(self):
        self.assertRefused("in a 1 0\nin b 1 0", 0)
        self.assertRefused("in a 0 1\nin b 1 0\nin a * *", 1)
        self.assertRefused("in a 0 1\nin a 0 1\nin b 1 0", 1)
        self.assertRefused("in a 0 1\nturn t a 1 0\nturn u v 1 0\nin w 1 0\n", 2)

    def test_a_wrong_row_gives_no_name(self):
        self.assertRefused("in a 1 0\nturn b a 1 0", 0)

    def test_twenty_four_rows_and_more(self):
        rows = [f"in a{letter} * *" for letter in "abcdefghijklmnopqrstuvwxyz"]
        self.assertEqual(len(read_works("\n".join(rows[:24]))), 24)
        self.assertRefused("\n".join(rows[:25]), 24)
        self.assertRefused("\n".join(rows[:26]), 24)
        self.assertRefused("\n".join(rows[:24] + [""]), 24)
        self.assertRefused("\n".join(rows[:24] + ["wrong", "wrong"]), 24)
        self.assertRefused("\n".join(rows[:24] * 40), 24)

    def test_a_wrong_row_ahead_of_one_too_many(self):
        rows = [f"in a{letter} * *" for letter in "abcdefghijklmnopqrstuvwxyz"]
        for at in (0, 7, 23):
            wrong = list(rows)
            wrong[at] = "in x 1 0"
            self.assertRefused("\n".join(wrong), at)
            wrong[at] = rows[at - 1] if at else "turn x y 1 0"
            self.assertRefused("\n".join(wrong), at)

    def test_each_wrong_row_ahead_of_right_ones(self):
        for text in NONE_OF_THESE + WRONG_BY_ROWS:
            self.assertRefused(BASE + "\n" + text + "\nin right * *\nin rights * *", COUNT)


class Drawn(Works):
    def changed(self, dice, text):
        """A text with some words or signs changed."""
        words = sorted(set(re.split("[ \n]", text))) + "* 0 1 -1 5 50 51 x most sum count aa fc".split()
        for _ in range(dice.randint(1, 2)):
            parts = re.split("([ \n])", text)
            place = dice.randrange(0, len(parts), 2)
            way = dice.random()
            if way < 0.7:
                parts[place] = dice.choice(words)
            elif way < 0.8:
                parts[place] += " " + dice.choice(words)
            elif way < 0.9:
                parts[place:place + 2] = []
            else:
                parts[place] += dice.choice("0-* xa\n")
            text = "".join(parts)
        return text

    def test_changed_texts(self):
        dice = random.Random(31)
        right = 0
        for turn in range(8000):
            text = self.changed(dice, text_of(some_works(dice)) if turn % 2 else BASE)
            at = first_wrong(text)
            if at is None:
                right += 1
                self.assertEqual(text_of(read_works(text)), text)
            else:
                self.assertRefused(text, at)
        self.assertTrue(400 < right < 7600, right)

    def test_texts_of_any_signs(self):
        dice = random.Random(32)
        signs = [chr(number) for number in range(32, 127)] + ["\n"] * 9 + [" "] * 20 + ["in", "*", "a", "b"] * 9
        for _ in range(300):
            text = "".join(dice.choice(signs) for _ in range(dice.randint(0, 40)))
            at = first_wrong(text)
            if at is not None:
                self.assertRefused(text, at)

    def test_drawn_works_are_read(self):
        dice = random.Random(33)
        for _ in range(400):
            works = some_works(dice)
            text = text_of(works)
            self.assertEqual(read_works(text), works)
            self.assertEqual(shown_works(works), text)


class Shown(Works):
    def test_each_word_as_its_text(self):
        for text, row in RIGHT:
            with self.subTest(text=text):
                self.assertEqual(shown_works([row]), text)
                whole = BASE + "\n" + text
                self.assertEqual(shown_works(read_works(whole)), whole)

    def test_rows_are_parted_by_line_feeds(self):
        works = [("in", "a", (), (None, -3)), ("put", "b", ("a",), (("x", "y"), ("y", "z")))]
        self.assertEqual(shown_works(works), "in a * -3\nput b a x y y z")


class Rows(Works):
    def test_row_named(self):
        works = read_works(BASE)
        for row in works:
            self.assertEqual(row_named(works, row[1]), row)
        for name in ("zz", "", "aaa", "a", "in", "AA"):
            self.assertIsNone(row_named(works, name))

    def test_rows_below(self):
        works = read_works(
            "in a * *\nin b * *\nin c * *\nturn t a 2 0\nlater l b 3\npour p l a\nonly o c k\npair r p t 4 less\n"
            "fixed f r 5 count\never e o sum\nask q f\nask s e"
        )
        for name, wanted in (
            ("a", "a"), ("b", "b"), ("t", "a t"), ("l", "b l"), ("p", "a b l p"), ("o", "c o"), ("r", "a b t l p r"),
            ("f", "a b t l p r f"), ("e", "c o e"), ("q", "a b t l p r f q"), ("s", "c o e s"),
        ):
            self.assertEqual(rows_below(works, name), wanted.split(), name)

    def test_rows_below_each_once(self):
        rows = ["in a * *", "rest b a 2 0", "rest c a 2 1", "pour d c b", "pair e d d 1 sum", "ever f e count", "ask g f"]
        works = read_works("\n".join(rows))
        self.assertEqual(rows_below(works, "g"), list("abcdefg"))
        self.assertEqual(rows_below(works, "d"), list("abcd"))

    def test_rows_below_of_drawn_works(self):
        dice = random.Random(34)
        for _ in range(100):
            works = some_works(dice)
            froms = {row[1]: row[2] for row in works}
            for name in froms:
                below = {name}
                while any(not set(froms[other]) <= below for other in below):
                    below |= {more for other in below for more in froms[other]}
                self.assertEqual(rows_below(works, name), [row[1] for row in works if row[1] in below])


class Own(Works):
    def test_nothing_handed_in_is_changed(self):
        works = read_works(BASE)
        kept = copy.deepcopy(works)
        shown_works(works)
        rows_below(works, "qq")
        row_named(works, "fc")
        self.assertEqual(works, kept)

    def test_what_is_told_is_the_askers_own(self):
        works = read_works(BASE)
        below = rows_below(works, "qq")
        kept = copy.deepcopy((works, below))
        works.clear()
        below.append("more")
        self.assertEqual(read_works(BASE), kept[0])
        self.assertEqual(rows_below(read_works(BASE), "qq"), kept[1])


if __name__ == "__main__":
    unittest.main()
