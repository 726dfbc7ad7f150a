"""Keys and tables (point 7), held against keys gone through one by one."""

import itertools
import string
import unittest

from latewell import keysets
from latewell.keysets import is_key, keys_hold, keys_inside, keys_meet, keys_put, keys_put_back, keys_some

# Some keys are named below; "q" and "zzzzzzzz" never are, and stand for all the others.
NAMED = ("a", "b", "c", "dd")
UNIVERSE = NAMED + ("q", "zzzzzzzz")
ONE_LETTER = list(string.ascii_lowercase)


def every_keys(named=NAMED):
    found = []
    for length in range(len(named) + 1):
        for names in itertools.combinations(named, length):
            found.append(("but", names))
            if names:
                found.append(("only", names))
    return found


KEYS = every_keys()
TABLES = [
    (("a", "b"),),
    (("a", "a"),),
    (("a", "b"), ("b", "a")),
    (("a", "b"), ("b", "c")),
    (("a", "b"), ("b", "c"), ("c", "a")),
    (("a", "c"), ("b", "c")),
    (("a", "c"), ("b", "c"), ("c", "c")),
    (("c", "a"), ("b", "a"), ("a", "dd"), ("dd", "dd")),
    (("dd", "a"), ("a", "dd")),
    (("b", "dd"), ("a", "b")),
]


def holds(keys, key):
    """Whether a key is one of the keys, by the very words of point 7."""
    return keys is not None and (key in keys[1] if keys[0] == "only" else key not in keys[1])


def becomes(table, key):
    for one, other in table:
        if one == key:
            return other
    return key


class Form(unittest.TestCase):
    def assertKeys(self, keys, is_one):
        """That keys are in the form of point 7 and are just these."""
        if keys is not None:
            self.assertIs(type(keys), tuple)
            word, names = keys
            self.assertIs(type(names), tuple)
            self.assertIn(word, ("only", "but"))
            self.assertEqual(names, tuple(sorted(set(names))))
            self.assertTrue(word == "but" or names)
        for key in UNIVERSE:
            self.assertEqual(holds(keys, key), is_one(key), (keys, key))


class Key(unittest.TestCase):
    def test_keys(self):
        for x in ("a", "z", "ab", "abcdefgh", "zzzzzzzz", "only", "but", "none"):
            self.assertIs(is_key(x), True, x)

    def test_texts_that_are_none(self):
        for x in ("", "abcdefghi", "A", "aB", "Abc", "1", "a1", "a_b", "a b", " a", "a ", "a\n", "\n", "-", "*",
                  "`", "{", "\u00e4", "\u00df", "\u0430", "\u00aa"):
            self.assertIs(is_key(x), False, x)

    def test_what_is_no_text(self):
        for x in (None, True, False, 0, 1, ("a",), ["a"], {"a": 1}, (), [], b"a", 1.5, ord("a")):
            self.assertIs(is_key(x), False, x)


class Sets(Form):
    def test_hold(self):
        for keys, key in itertools.product(KEYS, UNIVERSE):
            self.assertIs(keys_hold(keys, key), holds(keys, key))

    def test_a_part_of_a_key_is_not_the_key(self):
        self.assertIs(keys_hold(("only", ("dd",)), "d"), False)
        self.assertIs(keys_hold(("but", ("dd",)), "d"), True)

    def test_meet(self):
        for one, other in itertools.product(KEYS, KEYS):
            self.assertKeys(keys_meet(one, other), lambda key: holds(one, key) and holds(other, key))

    def test_meet_both_ways_round(self):
        for one, other, met in (
            (("only", ("a", "b")), ("only", ("b", "c")), ("only", ("b",))),
            (("only", ("a",)), ("only", ("b",)), None),
            (("only", ("a", "b")), ("but", ("b", "c")), ("only", ("a",))),
            (("only", ("a", "b")), ("but", ("a", "b", "c")), None),
            (("only", ("a", "b")), ("but", ()), ("only", ("a", "b"))),
            (("but", ("c",)), ("but", ("a", "b")), ("but", ("a", "b", "c"))),
            (("but", ("a",)), ("but", ("a",)), ("but", ("a",))),
            (("but", ()), ("but", ()), ("but", ())),
        ):
            self.assertEqual(keys_meet(one, other), met)
            self.assertEqual(keys_meet(other, one), met)

    def test_inside(self):
        for one, other in itertools.product(KEYS, KEYS):
            wanted = all(holds(other, key) for key in UNIVERSE if holds(one, key))
            self.assertIs(keys_inside(one, other), wanted, (one, other))

    def test_a_but_is_never_inside_an_only(self):
        for names in (("a",), tuple(ONE_LETTER)):
            self.assertIs(keys_inside(("but", ()), ("only", names)), False)
            self.assertIs(keys_inside(("but", names), ("only", names)), False)
        self.assertIs(keys_inside(("but", ("a",)), ("but", ())), True)
        self.assertIs(keys_inside(("but", ()), ("but", ("a",))), False)


class Tables(Form):
    def test_put(self):
        for keys, table in itertools.product(KEYS, TABLES):
            images = [becomes(table, key) for key in UNIVERSE if holds(keys, key)]
            self.assertKeys(keys_put(keys, table), lambda key: key in images)

    def test_put_back(self):
        for keys, table in itertools.product(KEYS, TABLES):
            self.assertKeys(keys_put_back(keys, table), lambda key: holds(keys, becomes(table, key)))

    def test_several_keys_become_one(self):
        table = (("a", "c"), ("b", "c"))
        self.assertEqual(keys_put(("only", ("a", "b")), table), ("only", ("c",)))
        self.assertEqual(keys_put(("but", ()), table), ("but", ("a", "b")))
        self.assertEqual(keys_put(("but", ("a", "c")), table), ("but", ("a", "b")))
        self.assertEqual(keys_put(("but", ("a", "b", "c")), table), ("but", ("a", "b", "c")))
        self.assertEqual(keys_put_back(("only", ("c",)), table), ("only", ("a", "b", "c")))
        self.assertIsNone(keys_put_back(("only", ("a", "b")), table))
        self.assertEqual(keys_put_back(("but", ("c",)), table), ("but", ("a", "b", "c")))
        self.assertEqual(keys_put_back(("but", ("a", "b")), table), ("but", ()))

    def test_a_key_becomes_itself(self):
        table = (("a", "a"),)
        for keys in KEYS:
            self.assertEqual(keys_put(keys, table), keys)
            self.assertEqual(keys_put_back(keys, table), keys)

    def test_two_keys_change_places(self):
        table = (("a", "b"), ("b", "a"))
        self.assertEqual(keys_put(("only", ("a", "c")), table), ("only", ("b", "c")))
        self.assertEqual(keys_put(("but", ("a", "c")), table), ("but", ("b", "c")))
        self.assertEqual(keys_put_back(("only", ("a", "c")), table), ("only", ("b", "c")))
        self.assertEqual(keys_put_back(("but", ("a", "c")), table), ("but", ("b", "c")))

    def test_a_key_that_is_another_pairs_other(self):
        table = (("a", "b"), ("b", "c"))
        self.assertEqual(keys_put(("only", ("a",)), table), ("only", ("b",)))
        self.assertEqual(keys_put(("but", ()), table), ("but", ("a",)))
        self.assertEqual(keys_put(("but", ("a",)), table), ("but", ("a", "b")))
        self.assertEqual(keys_put_back(("only", ("b",)), table), ("only", ("a",)))
        self.assertEqual(keys_put_back(("only", ("c",)), table), ("only", ("b", "c")))
        self.assertIsNone(keys_put_back(("only", ("a",)), table))


class Some(unittest.TestCase):
    def test_of_only(self):
        keys = ("only", ("aaa", "b", "ca", "cb", "d"))
        self.assertEqual(keys_some(keys, []), "b")
        self.assertEqual(keys_some(keys, ["b"]), "d")
        self.assertEqual(keys_some(keys, ["d", "b"]), "ca")
        self.assertEqual(keys_some(keys, ["ca", "d", "b"]), "cb")
        self.assertEqual(keys_some(keys, ["cb", "ca", "d", "b", "x"]), "aaa")
        self.assertIsNone(keys_some(keys, ["aaa", "cb", "ca", "d", "b"]))

    def test_of_but(self):
        self.assertEqual(keys_some(("but", ()), []), "a")
        self.assertEqual(keys_some(("but", ("a", "b")), []), "c")
        self.assertEqual(keys_some(("but", ("a", "c")), ["b", "e"]), "d")
        self.assertEqual(keys_some(("but", ("aa", "b")), ["a", "a"]), "c")

    def test_where_all_keys_of_one_letter_are_shut_out(self):
        self.assertEqual(keys_some(("but", tuple(ONE_LETTER)), []), "aa")
        self.assertEqual(keys_some(("but", ()), ONE_LETTER), "aa")
        self.assertEqual(keys_some(("but", tuple(ONE_LETTER[:20])), ONE_LETTER[20:] + ["aa", "ab"]), "ac")

    def test_the_keys_in_their_order(self):
        order = ["".join(signs) for length in (1, 2, 3)
                 for signs in itertools.product(string.ascii_lowercase, repeat=length)]
        for count in list(range(0, 60)) + [26 + 26 * 25, 26 + 26 * 26 - 1, 26 + 26 * 26, 26 + 26 * 26 + 1, 2000]:
            shut = order[:count]
            self.assertEqual(keys_some(("but", ()), shut[::-1]), order[count])
            self.assertEqual(keys_some(("but", tuple(sorted(shut))), []), order[count])

    def test_the_last_key_has_none_behind_it(self):
        self.assertEqual(keysets.key_behind("zzzzzzz"), "aaaaaaaa")
        self.assertEqual(keysets.key_behind("zzzzzzzy"), "zzzzzzzz")
        self.assertIsNone(keysets.key_behind("zzzzzzzz"))

    def test_the_list_is_not_changed(self):
        others = ["b", "a"]
        self.assertEqual(keys_some(("but", ("c",)), others), "d")
        self.assertEqual(keys_some(("only", ("a", "c")), others), "c")
        self.assertEqual(others, ["b", "a"])


if __name__ == "__main__":
    unittest.main()
