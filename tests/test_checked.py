"""Origins, and works that are let by (point 23, and 2 for it), held against things walked along each way."""

import copy
import random
import unittest

from latewell.checked import check_works, origins_of
from latewell.errors import NoWorks
from latewell.works import read_works
from samples import IN_BOUNDS, SMALL_BOUNDS, by_row, some_chains, some_names, some_works, still_comings
from walked import chains_of, in_box, walked

ALL_KEYS = ("but", ())
ALL_VALUES = (None, None, 1, 0)
VALUES = (-4, 20, 1, 0)


def ways_to(works, name):
    """For each way from an in to a chain the in and the rows behind it, as point 21 orders them."""
    row = {row[1]: row for row in works}[name]
    if row[0] == "in":
        return [(name, [])]
    return [(first, rows + [row]) for below in row[2] for first, rows in ways_to(works, below)]


def goes(thing, rows):
    """Whether a thing of an in goes all the way through rows."""
    for row in rows:
        if row[0] != "pour" and thing is not None:
            thing = by_row(row, thing)
    return thing is not None


def first_wrong(works, comings):
    """The number of the first row that is wrong, None where none is; comings are all that matter."""
    each = [walked(works, coming) for coming in comings]
    for number, (word, name, froms, rest) in enumerate(works):
        if word in ("pair", "fixed", "slide", "gaps", "ever", "ask"):
            continue
        counts = {len(one[name]) for one in each}
        if counts == {0} or (word == "pour" and max(counts) > 1):
            return number
    return None


class Origins(unittest.TestCase):
    def told(self, *rows):
        """The origins of the last row, below which the ins a and b stand."""
        works = read_works("\n".join(("in a -4 20", "in b * *") + rows))
        return origins_of(works, works[-1][1])

    def test_an_in(self):
        works = read_works("in a -4 20\nin b * *\nin c 7 7\nin d * 0")
        self.assertEqual(origins_of(works, "a"), [("a", (ALL_KEYS, 0, None, VALUES))])
        self.assertEqual(origins_of(works, "b"), [("b", (ALL_KEYS, 0, None, ALL_VALUES))])
        self.assertEqual(origins_of(works, "c"), [("c", (ALL_KEYS, 0, None, (7, 7, 1, 0)))])
        self.assertEqual(origins_of(works, "d"), [("d", (ALL_KEYS, 0, None, (None, 0, 1, 0)))])

    def test_each_word(self):
        for row, wanted in (
            ("time x a 2 9", (ALL_KEYS, 2, 9, VALUES)), ("time x a 7 *", (ALL_KEYS, 7, None, VALUES)),
            ("only x a k b", (("only", ("b", "k")), 0, None, VALUES)),
            ("but x a k b", (("but", ("b", "k")), 0, None, VALUES)), ("span x a 0 *", (ALL_KEYS, 0, None, (0, 20, 1, 0))),
            ("rest x a 5 3", (ALL_KEYS, 0, None, (-2, 18, 5, 3))), ("turn x a -2 1", (ALL_KEYS, 0, None, VALUES)),
            ("later x a 9", (ALL_KEYS, 0, None, VALUES)), ("put x a k b", (ALL_KEYS, 0, None, VALUES)),
        ):
            self.assertEqual(self.told(row), [("a", wanted)], row)

    def test_things_of_the_in_not_of_the_chain(self):
        for rows, wanted in (
            (("later l a 5", "time x l 7 9"), (ALL_KEYS, 2, 4, VALUES)),
            (("later l a 5", "time x l 3 9"), (ALL_KEYS, 0, 4, VALUES)),
            (("turn t a -2 1", "span x t 0 5"), (ALL_KEYS, 0, None, (-2, 0, 1, 0))),
            (("turn t a 3 1", "rest x t 4 3"), (ALL_KEYS, 0, None, (-2, 18, 4, 2))),
            (("put p a k b", "only x p b m"), (("only", ("b", "k", "m")), 0, None, VALUES)),
            (("put p a k b", "but x p b"), (("but", ("b", "k")), 0, None, VALUES)),
            (("put p a k b b k", "only x p b"), (("only", ("k",)), 0, None, VALUES)),
        ):
            self.assertEqual(self.told(*rows), [("a", wanted)], rows)

    def test_a_pour_whose_ways_meet_one_in(self):
        told = self.told("only i a k", "but j a k", "later l j 3", "turn t i 2 0", "pour x l b t")
        self.assertEqual(told, [
            ("a", (("but", ("k",)), 0, None, VALUES)), ("b", (ALL_KEYS, 0, None, ALL_VALUES)),
            ("a", (("only", ("k",)), 0, None, VALUES)),
        ])
        every = ("a", (ALL_KEYS, 0, None, VALUES))
        self.assertEqual(self.told("later l a 3", "pour x a l"), [every, every])

    def test_the_order_of_the_ways(self):
        rows = ("rest r a 3 0", "rest s a 3 1", "rest t a 3 2", "pour p t r", "pour x b p s")
        parts = [(-3, 18, 3, 0), (-2, 19, 3, 1), (-4, 20, 3, 2)]
        wanted = [("b", (ALL_KEYS, 0, None, ALL_VALUES))]
        wanted += [("a", (ALL_KEYS, 0, None, parts[number])) for number in (2, 0, 1)]
        self.assertEqual(self.told(*rows), wanted)
        self.assertEqual(self.told(*rows, "span y x * *"), wanted)

    def test_ways_on_which_nothing_comes(self):
        told = self.told("only i a k", "only j a l", "turn t b 2 0", "pour p i t j", "only o p l", "rest x o 2 1")
        self.assertEqual(told, [("a", (("only", ("l",)), 0, None, (-3, 19, 2, 1)))])
        self.assertEqual(self.told("span s a 21 *"), [])
        self.assertEqual(self.told("later l a 5", "time t l 0 5", "later x t 1"), [])
        self.assertEqual(self.told("turn t a 2 0", "turn u b 4 2", "pour p t u", "rest x p 2 1"), [])

    def test_marks_are_nothing_here(self):
        self.assertEqual(self.told("time x a 0 1"), [("a", (ALL_KEYS, 0, 1, VALUES))])

    def assertWays(self, dice, bounds, values):
        works = some_chains(dice, some_names(dice), bounds, dice.random() < 0.5)[0]
        things = {}
        for coming in still_comings(works, {row[1]: 0 for row in works if row[0] == "in"}, 21, values):
            things.setdefault(coming[1], []).append(coming[2:])
        for name in chains_of(works):
            wanted = [(first, [goes(thing, rows) for thing in things[first]]) for first, rows in ways_to(works, name)]
            told = [(first, [in_box(box, thing) for thing in things[first]]) for first, box in origins_of(works, name)]
            self.assertEqual(told, [way for way in wanted if any(way[1])], (works, name))

    def test_drawn_works(self):
        dice = random.Random(71)
        for _ in range(25):
            self.assertWays(dice, SMALL_BOUNDS, range(-6, 10))
        # The rests leave one another out by 12 at most, and each row moves values by 5 at most.
        self.assertWays(dice, IN_BOUNDS, range(-70, 71))


class Checked(unittest.TestCase):
    def at(self, text):
        """The number of the row that is refused, None of a works that is let by."""
        try:
            self.assertIsNone(check_works(read_works(text)))
        except NoWorks as refused:
            self.assertIs(type(refused), NoWorks)
            return refused.at
        return None

    def test_let_by(self):
        for text in (
            "in a * *", "in a 5 5", "in a * *\nin b * *\npour p a b\nlater l p 3\nfixed f l 5 sum\nask q f",
            "in a * *\nspan s a 1 1\nrest r s 1000 1\ntime t r 0 1\nonly o t k\npair p o o 0 sum\never e p most\nask q e",
            "in a * *\nfixed f a 5 count\nask q f 50 50",
        ):
            self.assertIsNone(self.at(text), text)

    def test_a_row_and_the_same_row_moved(self):
        for row in ("later x a 5", "later x a 0", "turn x a 2 1", "turn x a 1 0", "put x a k m", "put x a k k"):
            self.assertEqual(self.at(f"in a * *\n{row}\npour p a x"), 2, row)
            self.assertEqual(self.at(f"in a * *\n{row}\npour p x a"), 2, row)
            self.assertEqual(self.at(f"in a * *\nin b * *\n{row}\npour p b x a\never e p count\nask q e"), 3, row)

    def test_moved_out_of_one_anothers_way(self):
        # What comes is apart, but one thing of the in still comes by both ways.
        self.assertEqual(self.at("in a 0 5\nturn t a 1 100\npour p a t"), 2)
        self.assertEqual(self.at("in a * *\ntime i a 0 5\nlater l i 5\npour p i l"), 3)
        self.assertEqual(self.at("in a * *\nonly o a k\nput u o k m\npour p o u"), 3)

    def test_two_froms_that_overlap(self):
        for one, other in (
            ("time x a 0 5", "time y a 4 9"), ("time x a 0 *", "time y a 9 10"), ("only x a k m", "only y a m n"),
            ("only x a k m", "but y a m"), ("but x a k", "but y a m"), ("span x a * 5", "span y a 5 *"),
            ("span x a 0 9", "span y a 4 5"), ("rest x a 2 0", "rest y a 3 0"), ("rest x a 4 1", "rest y a 6 5"),
            ("span x a 7 7", "rest y a 7 0"), ("only x a k", "time y a 3 4"), ("rest x a 2 0", "only y a k"),
            ("span x a 0 1", "rest y a 2 1"),
        ):
            self.assertEqual(self.at(f"in a * *\n{one}\n{other}\npour p x y"), 3, (one, other))
            self.assertEqual(self.at(f"in a * *\n{one}\n{other}\npour p y x"), 3, (one, other))

    def test_two_froms_that_are_apart(self):
        for one, other in (
            ("time x a 0 5", "time y a 5 9"), ("time x a 9 *", "time y a 0 9"), ("only x a k m", "only y a n"),
            ("only x a k m", "but y a m k"), ("span x a * 5", "span y a 6 *"), ("rest x a 2 0", "rest y a 2 1"),
            ("rest x a 4 1", "rest y a 6 4"), ("span x a 7 7", "rest y a 7 1"), ("span x a 0 1", "rest y a 3 2"),
        ):
            self.assertIsNone(self.at(f"in a * *\n{one}\n{other}\npour p x y"), (one, other))
            # Moved onto one another, they still come of unlike things.
            self.assertIsNone(self.at(f"in a * *\n{one}\n{other}\nput z x k n m n\nlater w y 3\nturn v w 2 1\npour p z v"))

    def test_overlapping_only_where_the_in_has_things(self):
        self.assertIsNone(self.at("in a 0 5\nrest x a 7 1\nrest y a 3 2\npour p x y"))
        self.assertEqual(self.at("in a 0 8\nrest x a 7 1\nrest y a 3 2\npour p x y"), 3)

    def test_ways_of_unlike_ins(self):
        self.assertIsNone(self.at("in a * *\nin b * *\nlater l a 0\npour p l b"))
        self.assertEqual(self.at("in a * *\nin b * *\npour p a b\npour x p b"), 3)
        self.assertIsNone(self.at("in a * *\nin b * *\nin c * *\npour p a b\npour x p c"))

    def test_ways_that_meet_further_up(self):
        self.assertEqual(self.at("in a * *\nonly o a k\nbut n a k\npour p o n\nlater l p 3\nonly m a k\npour x l m"), 6)
        self.assertIsNone(self.at("in a * *\nonly o a k\nonly n a m\npour p o n\nlater l p 3\nonly m a i\npour x l m"))
        self.assertIsNone(self.at("in a * *\nonly o a k\nbut n a k\npour p o n\nonly l p k\nbut m p k\npour x l m"))
        self.assertEqual(self.at("in a * *\nonly o a k\nbut n a k\npour p o n\nonly l p k\nbut m p i\npour x l m"), 6)
        # The first and the last one of many meet.
        rows = [f"only o{letter} a {letter}" for letter in "abcdefg"] + ["but last a b c d e f g"]
        froms = " ".join(f"o{letter}" for letter in "abcdefg")
        self.assertEqual(self.at("in a * *\n" + "\n".join(rows) + f"\npour p {froms} last"), 9)

    def test_a_chain_to_which_nothing_comes(self):
        for rows in (
            ("time x a 0 5", "time y x 5 9"), ("time x a 5 *", "time y x 0 5"), ("later x a 5", "time y x 0 5"),
            ("time x a 3 *", "later z x 5", "time y z 0 8"), ("only x a k", "only y x m"), ("only x a k m", "but y x m k"),
            ("but x a k", "only y x k"), ("put x a k m", "only y x k"), ("put x a k m", "later z x 1", "only y z k"),
            ("only x a k", "put z x k m", "but y z m"), ("span x a 3 *", "span y x * 2"), ("rest x a 2 0", "rest y x 4 1"),
            ("rest x a 2 0", "span y x 5 5"), ("turn x a 2 0", "rest y x 2 1"), ("turn x a -3 0", "span y x 1 2"),
            ("turn x a 1000 1", "rest y x 1000 0"), ("span x a 0 3", "turn z x -1 0", "span y z 1 *"),
        ):
            text = "\n".join(("in a * *",) + rows)
            self.assertEqual(self.at(text), len(rows), rows)
            self.assertEqual(self.at("in b * *\n" + text + "\nlater last y 1"), len(rows) + 1, rows)

    def test_beside_those_to_which_nothing_comes(self):
        for rows in (
            ("time x a 0 5", "time y x 4 9"), ("later x a 5", "time y x 0 6"), ("time x a 3 *", "later z x 5", "time y z 0 9"),
            ("only x a k m", "but y x m"), ("put x a k m m k", "only y x k"), ("put x a k m", "only y x m"),
            ("span x a 3 *", "span y x * 3"), ("rest x a 2 0", "rest y x 4 2"), ("rest x a 2 0", "span y x 5 6"),
            ("turn x a 2 1", "rest y x 2 1"), ("turn x a -3 0", "span y x 1 3"),
        ):
            self.assertIsNone(self.at("\n".join(("in a * *",) + rows)), rows)

    def test_nothing_comes_of_the_values_of_an_in(self):
        self.assertEqual(self.at("in a 0 5\nspan s a 6 *"), 1)
        self.assertEqual(self.at("in a 0 5\nrest r a 7 6"), 1)
        self.assertIsNone(self.at("in a 0 6\nrest r a 7 6"))
        self.assertEqual(self.at("in a 3 3\nrest r a 2 0"), 1)

    def test_nothing_comes_behind_a_pour(self):
        base = "in a * *\nin b 0 5\nturn t a 2 0\nspan s b 1 1\nturn u s 4 0\npour p t u\n"
        self.assertEqual(self.at(base + "rest r p 2 1"), 6)
        self.assertIsNone(self.at(base + "rest r p 2 0"))

    def test_the_first_wrong_row(self):
        self.assertEqual(self.at("in a 0 5\nspan s a 6 *\nlater l a 1\npour p a l\nspan t a 7 *"), 1)
        self.assertEqual(self.at("in a 0 5\nlater l a 1\npour p a l\nspan s a 6 *\npour x a l"), 2)
        self.assertEqual(self.at("in a 0 5\nlater l a 1\npour p a l\npour x p a"), 2)
        self.assertEqual(self.at("in a * *\nonly o a k\nonly n o m\npour p a n"), 2)
        self.assertEqual(self.at("in a * *\nfixed f a 5 sum\nask q f\nonly o a k\npour p o a\nspan s p 1 1\nbut n o k"), 4)
        self.assertEqual(self.at("in a * *\npair p a a 1 sum\never e p count\nask q e\nonly o a k\nbut n o k"), 5)

    def test_ways_that_double_with_each_row(self):
        rows = ["in a * *", "later b a 1"]
        for number in range(2, 24):
            rows.append(f"pour {'abcdefghijklmnopqrstuvwx'[number]} " + " ".join("abcdefghijklmnopqrstuvwx"[:number][-8:]))
        self.assertEqual(self.at("\n".join(rows)), 2)

    def test_hundreds_of_ways(self):
        rows, last = ["in a * *"], "a"
        parts = (("only {} {} k", "only {} {} l", "only {} {} m", "but {} {} k l m"),
                 ("time {} {} 0 5", "time {} {} 5 9", "time {} {} 9 15", "time {} {} 15 *"),
                 ("rest {} {} 4 0", "rest {} {} 4 1", "rest {} {} 4 2", "rest {} {} 4 3"),
                 ("rest {} {} 9 0", "rest {} {} 9 4", "rest {} {} 9 8", "rest {} {} 9 7"))
        for letter, texts in zip("bcde", parts):
            names = [letter + other for other in "abcd"]
            rows += [text.format(name, last) for text, name in zip(texts, names)]
            last = letter
            rows.append(f"pour {last} " + " ".join(names))
        works = read_works("\n".join(rows))
        self.assertIsNone(check_works(works))
        self.assertEqual(len(origins_of(works, last)), 256)
        self.assertEqual(self.at("\n".join(rows) + "\nspan f e * 3\npour g e f"), 22)

    def test_drawn_works(self):
        dice = random.Random(72)
        refused = {}
        for turn in range(400):
            bounds, values = (IN_BOUNDS, range(-40, 41)) if turn % 50 == 0 else (SMALL_BOUNDS, range(-6, 10))
            works = some_chains(dice, some_names(dice), bounds, turn % 3 == 0)[0]
            # No row begins behind 20, so what can meet at all meets by then.
            comings = still_comings(works, {row[1]: 0 for row in works if row[0] == "in"}, 21, values)
            wanted = first_wrong(works, comings)
            try:
                self.assertIsNone(check_works(works))
                told = None
            except NoWorks as error:
                told = error.at
            self.assertEqual(told, wanted, works)
            word = None if told is None else works[told][0]
            refused[word] = refused.get(word, 0) + 1
        self.assertGreater(refused[None], 30)
        self.assertGreater(refused["pour"], 15)
        self.assertGreater(sum(refused.values()) - refused[None] - refused["pour"], 15)


class Own(unittest.TestCase):
    def test_nothing_handed_in_is_changed(self):
        dice = random.Random(73)
        for _ in range(30):
            works = some_works(dice)
            kept = copy.deepcopy(works)
            for name in chains_of(works):
                origins_of(works, name)
            try:
                check_works(works)
            except NoWorks:
                pass
            self.assertEqual(works, kept)

    def test_the_list_is_a_new_one(self):
        works = read_works("in a * *\nin b * *\npour p a b")
        told = origins_of(works, "p")
        kept = list(told)
        told.clear()
        self.assertEqual(origins_of(works, "p"), kept)
        self.assertEqual(len(origins_of(works, "a")), 1)


if __name__ == "__main__":
    unittest.main()
