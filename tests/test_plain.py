"""The plain answers (points 15 to 20, and 2 for them), held against things gone through one by one."""

import copy
import itertools
import random
import unittest

from latewell.plain import chain_things, fold_cells, pairs_of, plain_answers, told_answer
from latewell.works import read_works
from samples import some_comings, some_works
from walked import all_brought, answers_of, folded, paired

FOLD_WORDS = ("count", "sum", "most", "least")
HOWS = ("sum", "less", "left", "right")


def some_things(dice, count):
    return [(dice.randint(0, 30), dice.choice("abc"), dice.randint(-9, 9)) for _ in range(count)]


class ChainThings(unittest.TestCase):
    def test_a_chain_of_each_word(self):
        works = read_works(
            "in a * *\nin b -5 5\ntime ti a 2 9\nonly on a k\nbut bu a k\nspan sp a -3 3\nrest re a 3 1\n"
            "turn tu a -2 1\nlater la a 4\nput pu a k m m k\npour po tu b\nfixed f po 5 count\nask q f"
        )
        comings = [
            ("thing", "a", 9, "k", 4), ("mark", "b", 1), ("thing", "a", 2, "m", -3), ("thing", "b", 3, "k", 5),
            ("thing", "a", 8, "n", 1), ("mark", "a", 1), ("close", "b"),
        ]
        self.assertEqual(chain_things(works, comings), {
            "a": [(2, "m", -3), (8, "n", 1), (9, "k", 4)],
            "b": [(3, "k", 5)],
            "ti": [(2, "m", -3), (8, "n", 1)],
            "on": [(9, "k", 4)],
            "bu": [(2, "m", -3), (8, "n", 1)],
            "sp": [(2, "m", -3), (8, "n", 1)],
            "re": [(8, "n", 1), (9, "k", 4)],
            "tu": [(2, "m", 7), (8, "n", -1), (9, "k", -7)],
            "la": [(6, "m", -3), (12, "n", 1), (13, "k", 4)],
            "pu": [(2, "k", -3), (8, "n", 1), (9, "m", 4)],
            "po": [(2, "m", 7), (3, "k", 5), (8, "n", -1), (9, "k", -7)],
        })

    def test_a_thing_that_came_twice(self):
        works = read_works(
            "in a * *\nin b * *\nput u a x y\nturn t u 2 0\nlater l t 3\npour p l b\nonly n p y"
        )
        comings = [("thing", "a", 1, "x", 2), ("thing", "b", 4, "y", 4), ("thing", "a", 1, "x", 2)]
        self.assertEqual(chain_things(works, comings), {
            "a": [(1, "x", 2)] * 2, "b": [(4, "y", 4)], "u": [(1, "y", 2)] * 2, "t": [(1, "y", 4)] * 2,
            "l": [(4, "y", 4)] * 2, "p": [(4, "y", 4)] * 3, "n": [(4, "y", 4)] * 3,
        })

    def test_the_order_of_things_not_of_comings(self):
        works = read_works("in a * *")
        things = [(0, "b", 5), (0, "b", -5), (3, "a", 0), (0, "a", 9), (3, "a", 0), (1, "z", 1)]
        for turn in itertools.permutations(things):
            told = chain_things(works, [("thing", "a") + thing for thing in turn])
            self.assertEqual(told, {"a": sorted(things)})

    def test_sorted_behind_a_row_that_turns_the_order(self):
        works = read_works("in a * *\nturn t a -1 0\nput u a x z y x")
        told = chain_things(works, [("thing", "a", 1, key, value) for key, value in (("x", 1), ("y", 2), ("x", 3))])
        self.assertEqual(told["t"], [(1, "x", -3), (1, "x", -1), (1, "y", -2)])
        self.assertEqual(told["u"], [(1, "x", 2), (1, "z", 1), (1, "z", 3)])

    def test_chains_without_things(self):
        works = read_works("in a * *\nspan s a 1 2\nin b * *\npour p s b\npair r a b 1 sum\never e r count\nask q e")
        self.assertEqual(chain_things(works, []), {"a": [], "s": [], "b": [], "p": []})
        marks = [("mark", "a", 5), ("close", "a"), ("close", "b")]
        self.assertEqual(chain_things(works, marks), {"a": [], "s": [], "b": [], "p": []})

    def test_eight_froms(self):
        names = "abcdefgh"
        works = read_works("\n".join(f"in {name} * *" for name in names) + "\npour p " + " ".join(reversed(names)))
        comings = [("thing", name, 9 - number, "k", number) for number, name in enumerate(names)]
        self.assertEqual(chain_things(works, comings)["p"], [(9 - number, "k", number) for number in range(7, -1, -1)])

    def test_drawn_works(self):
        dice = random.Random(51)
        for _ in range(150):
            works = some_works(dice)
            comings = some_comings(dice, works, 30)
            self.assertEqual(chain_things(works, comings), all_brought(works, comings), works)


class Pairs(unittest.TestCase):
    def pair(self, reach, how):
        return ("pair", "p", ("l", "r"), (reach, how))

    def test_each_how(self):
        for how, value in (("sum", 3), ("less", 11), ("left", 7), ("right", -4)):
            told = pairs_of(self.pair(5, how), [(3, "a", 7)], [(6, "a", -4)])
            self.assertEqual(told, [(6, "a", value)])
            told = pairs_of(self.pair(5, how), [(6, "a", 7)], [(3, "a", -4)])
            self.assertEqual(told, [(6, "a", value)])

    def test_at_reach_and_one_beyond(self):
        for reach in (0, 1, 5, 999999999999):
            for how in HOWS:
                row = self.pair(reach, how)
                self.assertEqual(len(pairs_of(row, [(10, "a", 1)], [(10 + reach, "a", 2)])), 1)
                self.assertEqual(len(pairs_of(row, [(10 + reach, "a", 1)], [(10, "a", 2)])), 1)
                self.assertEqual(pairs_of(row, [(10, "a", 1)], [(11 + reach, "a", 2)]), [])
                self.assertEqual(pairs_of(row, [(11 + reach, "a", 1)], [(10, "a", 2)]), [])

    def test_one_key(self):
        lefts = [(1, "a", 1), (1, "b", 2), (1, "ab", 3)]
        rights = [(1, "b", 10), (1, "c", 20), (1, "b", 30)]
        self.assertEqual(pairs_of(self.pair(9, "sum"), lefts, rights), [(1, "b", 12), (1, "b", 32)])
        self.assertEqual(pairs_of(self.pair(9, "sum"), lefts, [(1, "q", 1)]), [])

    def test_left_and_right_one_row(self):
        things = [(1, "a", 1), (2, "a", 10), (2, "b", 5)]
        self.assertEqual(
            pairs_of(self.pair(1, "less"), things, things),
            [(1, "a", 0), (2, "a", -9), (2, "a", 0), (2, "a", 9), (2, "b", 0)],
        )
        self.assertEqual(len(pairs_of(self.pair(0, "sum"), [(1, "a", 1)] * 3, [(1, "a", 1)] * 3)), 9)

    def test_nothing_on_a_side(self):
        self.assertEqual(pairs_of(self.pair(1, "sum"), [], []), [])
        self.assertEqual(pairs_of(self.pair(1, "sum"), [(1, "a", 1)], []), [])
        self.assertEqual(pairs_of(self.pair(1, "sum"), [], [(1, "a", 1)]), [])

    def test_drawn_things(self):
        dice = random.Random(52)
        for reach, how in itertools.product((0, 1, 2, 7, 40), HOWS):
            row = self.pair(reach, how)
            for _ in range(10):
                lefts, rights = some_things(dice, dice.randint(0, 15)), some_things(dice, dice.randint(0, 15))
                self.assertEqual(pairs_of(row, lefts, rights), paired(row, lefts, rights))
                self.assertEqual(pairs_of(row, lefts, lefts), paired(row, lefts, lefts))


class Folds(unittest.TestCase):
    def fold(self, word, *rest):
        return (word, "f", ("a",), rest)

    def test_fixed(self):
        things = [(0, "a", 3), (4, "a", -8), (5, "a", 1), (9, "b", 2), (10, "a", 4), (10, "a", 4)]
        for fold, wanted in (("count", (2, 1, 2, 1)), ("sum", (-5, 1, 8, 2)), ("most", (3, 1, 4, 2)),
                             ("least", (-8, 1, 4, 2))):
            cells = zip((("a", 0), ("a", 1), ("a", 2), ("b", 1)), wanted)
            self.assertEqual(fold_cells(self.fold("fixed", 5, fold), things), list(cells))

    def test_slide(self):
        things = [(0, "a", 3), (4, "a", -8)]
        for fold, wanted in (("count", (1, 1, 2, 1, 1)), ("sum", (3, 3, -5, -8, -8)), ("most", (3, 3, 3, -8, -8)),
                             ("least", (3, 3, -8, -8, -8))):
            cells = zip((("a", -2), ("a", -1), ("a", 0), ("a", 1), ("a", 2)), wanted)
            self.assertEqual(fold_cells(self.fold("slide", 5, 2, fold), things), list(cells))

    def test_slide_windows_below_0(self):
        told = fold_cells(self.fold("slide", 20, 1, "count"), [(0, "a", 5)])
        self.assertEqual(told, [(("a", i), 1) for i in range(-19, 1)])
        told = fold_cells(self.fold("slide", 7, 6, "count"), [(0, "a", 5)])
        self.assertEqual(told, [(("a", -1), 1), (("a", 0), 1)])
        told = fold_cells(self.fold("slide", 7, 6, "count"), [(1, "a", 5)])
        self.assertEqual(told, [(("a", 0), 1)])

    def test_slide_begin_and_end_of_a_window(self):
        row = self.fold("slide", 10, 4, "count")
        for time, windows in ((7, [0, 1]), (8, [0, 1, 2]), (9, [0, 1, 2]), (10, [1, 2]), (11, [1, 2]), (12, [1, 2, 3])):
            self.assertEqual(fold_cells(row, [(time, "a", 0)]), [(("a", i), 1) for i in windows])

    def test_ever(self):
        things = [(0, "b", 3), (10 ** 12, "a", -8), (5, "b", 1)]
        for fold, wanted in (("count", (1, 2)), ("sum", (-8, 4)), ("most", (-8, 3)), ("least", (-8, 1))):
            cells = [(("a", 0), wanted[0]), (("b", 0), wanted[1])]
            self.assertEqual(fold_cells(self.fold("ever", fold), things), cells)

    def test_gaps(self):
        things = [(3, "a", 3), (7, "a", -8), (12, "a", 5), (12, "a", 6), (4, "b", 1)]
        # 7 is one less than 5 behind 3; 12 is 5 behind 7.
        for fold, wanted in (("count", (2, 2, 1)), ("sum", (-5, 11, 1)), ("most", (3, 6, 1)), ("least", (-8, 5, 1))):
            cells = [(("a", 3), (7, wanted[0])), (("a", 12), (12, wanted[1])), (("b", 4), (4, wanted[2]))]
            self.assertEqual(fold_cells(self.fold("gaps", 5, fold), things), cells)

    def test_gap_behind_and_one_less(self):
        for gap in (1, 2, 5, 999999999999):
            row = self.fold("gaps", gap, "count")
            told = fold_cells(row, [(2, "a", 0), (2 + gap, "a", 0)])
            self.assertEqual(told, [(("a", 2), (2, 1)), (("a", 2 + gap), (2 + gap, 1))])
            told = fold_cells(row, [(2, "a", 0), (1 + gap, "a", 0)])
            self.assertEqual(told, [(("a", 2), (1 + gap, 2))])

    def test_a_session_goes_from_thing_to_thing(self):
        things = [(time, "a", time) for time in (12, 0, 8, 4, 20, 16)]
        self.assertEqual(fold_cells(self.fold("gaps", 5, "sum"), things), [(("a", 0), (20, 60))])
        self.assertEqual(len(fold_cells(self.fold("gaps", 4, "sum"), things)), 6)

    def test_a_thing_of_another_key_between(self):
        things = [(0, "a", 1), (2, "b", 1), (4, "a", 1), (9, "b", 1)]
        self.assertEqual(fold_cells(self.fold("gaps", 5, "count"), things), [
            (("a", 0), (4, 2)), (("b", 2), (2, 1)), (("b", 9), (9, 1)),
        ])

    def test_no_things(self):
        for word, rest in (("fixed", (5, "count")), ("slide", (5, 2, "sum")), ("ever", ("most",)), ("gaps", (5, "least"))):
            self.assertEqual(fold_cells(self.fold(word, *rest), []), [])

    def test_a_sum_of_0_is_an_amount(self):
        things = [(0, "a", 3), (0, "a", -3)]
        self.assertEqual(fold_cells(self.fold("ever", "sum"), things), [(("a", 0), 0)])

    def test_drawn_things(self):
        dice = random.Random(53)
        rests = {
            "fixed": ((1,), (2,), (7,), (100,)), "slide": ((2, 1), (20, 1), (5, 3), (7, 2), (40, 2), (9, 8)),
            "gaps": ((1,), (2,), (3,), (8,), (100,)), "ever": ((),),
        }
        for word in rests:
            for rest, fold in itertools.product(rests[word], FOLD_WORDS):
                row = self.fold(word, *rest, fold)
                for count in (1, 2, 5, 12, 25):
                    things = some_things(dice, count)
                    self.assertEqual(fold_cells(row, things), folded(row, things), (row, things))
                    self.assertEqual(fold_cells(row, sorted(things)), folded(row, things))


class Told(unittest.TestCase):
    def test_without_bounds(self):
        row = ("ask", "q", ("f",), ())
        for amount_told in (0, 1, -5, 10 ** 200, (7, 0), (7, -3), None):
            self.assertEqual(told_answer(row, amount_told), amount_told)

    def test_at_low_and_high(self):
        row = ("ask", "q", ("f",), (-2, 3))
        for amount_told in range(-5, 7):
            wanted = amount_told if amount_told in (-2, -1, 0, 1, 2, 3) else None
            self.assertEqual(told_answer(row, amount_told), wanted)
        self.assertIsNone(told_answer(row, None))

    def test_none_for_a_bound(self):
        for bounds, let_by, shut in (
            ((None, 3), (3, 0, -10 ** 200), (4, 10 ** 200)), ((3, None), (3, 10 ** 200), (2, 0, -3)),
            ((None, None), (0, -10 ** 200, 10 ** 200), ()), ((0, 0), (0,), (1, -1)), ((None, 0), (0, -1), (1,)),
            ((0, None), (0, 1), (-1,)), ((50, 50), (50,), (49, 51)),
        ):
            row = ("ask", "q", ("f",), bounds)
            self.assertIsNone(told_answer(row, None))
            for amount_told in let_by:
                self.assertEqual(told_answer(row, amount_told), amount_told)
            for amount_told in shut:
                self.assertIsNone(told_answer(row, amount_told))


class Answers(unittest.TestCase):
    def test_a_works_with_each_fold(self):
        works = read_works(
            "in a * *\nin b * *\npair p a b 2 less\nfixed f a 5 sum\nslide s a 4 2 most\ngaps g b 3 least\n"
            "ever e p count\nask qf f\nask qs s 0 5\nask qg g\nask qe e\nask again f"
        )
        comings = [
            ("thing", "a", 1, "k", 7), ("thing", "b", 3, "k", 2), ("mark", "a", 1), ("thing", "a", 6, "k", -7),
            ("thing", "b", 5, "k", 9), ("thing", "a", 2, "m", 3), ("thing", "b", 9, "k", 1), ("close", "b"),
            ("thing", "a", 4, "k", 0),
        ]
        self.assertEqual(plain_answers(works, comings), {
            "qf": [(("k", 0), 7), (("k", 1), -7), (("m", 0), 3)],
            "qs": [(("k", 1), 0), (("k", 2), 0), (("m", 0), 3), (("m", 1), 3)],
            "qg": [(("k", 3), (5, 2)), (("k", 9), (9, 1))],
            "qe": [(("k", 0), 4)],
            "again": [(("k", 0), 7), (("k", 1), -7), (("m", 0), 3)],
        })

    def test_no_comings(self):
        works = read_works("in a * *\nfixed f a 5 sum\nask q f\nask r f\never e a count\nask s e 2 3")
        self.assertEqual(plain_answers(works, []), {"q": [], "r": [], "s": []})
        self.assertEqual(plain_answers(works, [("close", "a")]), {"q": [], "r": [], "s": []})
        self.assertEqual(plain_answers(read_works("in a * *"), [("thing", "a", 0, "k", 0)]), {})

    def test_a_count_between_bounds(self):
        works = read_works("in a * *\never e a count\nask q e 2 3")
        for count, wanted in ((0, []), (1, []), (2, [(("k", 0), 2)]), (3, [(("k", 0), 3)]), (4, [])):
            self.assertEqual(plain_answers(works, [("thing", "a", 5, "k", 1)] * count), {"q": wanted})

    def test_an_answer_of_0_is_told(self):
        works = read_works("in a * *\never e a sum\never m a most\nask q e\nask r m * 0")
        told = plain_answers(works, [("thing", "a", 0, "k", 0)])
        self.assertEqual(told, {"q": [(("k", 0), 0)], "r": [(("k", 0), 0)]})

    def test_what_one_coming_brings_to_both_sides(self):
        works = read_works("in a * *\nturn t a 2 0\npair p a t 0 sum\never e p most\nask q e")
        self.assertEqual(plain_answers(works, [("thing", "a", 4, "k", 5)]), {"q": [(("k", 0), 15)]})

    def test_drawn_works(self):
        dice = random.Random(54)
        told_some = 0
        for _ in range(400):
            works = some_works(dice)
            comings = some_comings(dice, works, dice.choice((0, 1, 5, 20, 30)))
            told = plain_answers(works, comings)
            self.assertEqual(told, answers_of(works, comings), (works, comings))
            told_some += any(told.values())
        self.assertGreater(told_some, 200)

    def test_the_order_of_comings_changes_nothing(self):
        dice = random.Random(55)
        for _ in range(40):
            works = some_works(dice)
            comings = some_comings(dice, works, 20)
            told = plain_answers(works, comings)
            dice.shuffle(comings)
            self.assertEqual(plain_answers(works, comings), told)

    def test_four_hundred_comings(self):
        works = read_works("in a * *\npair p a a 999 sum\nslide s p 20 1 count\nask q s\nfixed f p 1000 most\nask r f")
        told = plain_answers(works, [("thing", "a", time % 100, "k", time) for time in range(400)])
        self.assertEqual(told["r"], [(("k", 0), 798)])
        self.assertEqual(told["q"][0], (("k", -19), 16))
        self.assertEqual(told["q"][-1], (("k", 99), 16 * 199))


class Own(unittest.TestCase):
    def test_nothing_handed_in_is_changed(self):
        dice = random.Random(56)
        for _ in range(30):
            works = some_works(dice)
            comings = some_comings(dice, works, 25)
            kept = copy.deepcopy((works, comings))
            chain_things(works, comings)
            plain_answers(works, comings)
            self.assertEqual((works, comings), kept)
        things = some_things(dice, 20)
        others = some_things(dice, 20)
        kept = copy.deepcopy((things, others))
        pairs_of(("pair", "p", ("l", "r"), (5, "sum")), things, others)
        for word, rest in (("fixed", (5, "sum")), ("slide", (5, 2, "sum")), ("gaps", (5, "sum")), ("ever", ("sum",))):
            fold_cells((word, "f", ("a",), rest), things)
        self.assertEqual((things, others), kept)

    def test_each_list_is_a_new_one(self):
        works = read_works("in a * *\nspan s a * *\nin b * *\npour p s b\nfixed f p 5 count\nask q f\nask r f")
        comings = [("thing", "a", 1, "k", 1), ("thing", "a", 2, "k", 1)]
        for call in (chain_things, plain_answers):
            told = call(works, comings)
            kept = copy.deepcopy(told)
            self.assertEqual(len({id(told[name]) for name in told}), len(told))
            for name in told:
                told[name].append("more")
                self.assertEqual([other for other in told if told[other] != kept[other]], [name])
                told[name].pop()
            told.clear()
            self.assertEqual(call(works, comings), kept)

    def test_what_is_done_behind_the_call_changes_nothing(self):
        works = read_works("in a * *\never e a count\nask q e")
        comings = [("thing", "a", 1, "k", 1)]
        things = chain_things(works, comings)
        answers = plain_answers(works, comings)
        comings.append(("thing", "a", 2, "k", 1))
        works.clear()
        self.assertEqual(things, {"a": [(1, "k", 1)]})
        self.assertEqual(answers, {"q": [(("k", 0), 1)]})


if __name__ == "__main__":
    unittest.main()
