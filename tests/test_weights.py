"""Promise 5: Weights, how they are reckoned, shown and read."""

import copy
import unittest
from math import gcd

from casknotes.errors import NoText, NoWeight, NoWhole, Short
from casknotes.weights import Weight, read_weight, total
from things import FORTY_NINES, ODD_TEXTS, OTHER_KINDS, great_weight

TWELVE_NINES = 10 ** 12 - 1
# A truth, a text, None and the like: no whole numbers; the whole numbers below 0 are told apart.
NO_WHOLES = OTHER_KINDS + ODD_TEXTS + ["0", "1", "7/2"]
BELOW_NOUGHT = [-1, -2, -7, -10 ** 12, -FORTY_NINES]
SOME = [(0, 1), (1, 1), (2, 1), (3, 1), (12, 1), (1, 2), (3, 2), (7, 2), (1, 3), (2, 3), (22, 7), (99, 100),
        (TWELVE_NINES, 1), (1, TWELVE_NINES), (10 ** 12, 7), (FORTY_NINES, 1), (FORTY_NINES, FORTY_NINES - 1)]


def fields(weight):
    return weight.top, weight.bottom


def in_figures(number):
    """The figures of a whole number from 1 on, one by one, as Python won't write many at once."""
    found = []
    while number:
        number, figure = divmod(number, 10)
        found.append("0123456789"[figure])
    return "".join(reversed(found))


def weight_of_figures(text):
    """The Weight whose top has these figures, reckoned of small ones, block by block."""
    weight = Weight(0)
    for at in range(0, len(text), 12):
        block = text[at:at + 12]
        weight = weight.times(10 ** len(block)).plus(Weight(int(block)))
    return weight


class WeightCase(unittest.TestCase):
    def is_weight(self, weight, top, bottom=1):
        """It is just a Weight with just these fields, whole numbers."""
        self.assertIs(weight.__class__, Weight)
        self.assertEqual(fields(weight), (top, bottom))
        self.assertEqual([field.__class__ for field in fields(weight)], [int, int])


class TestMade(WeightCase):
    def test_whole_ones(self):
        for top in [0, 1, 2, 7, 30, 1200, 10 ** 12, FORTY_NINES]:
            self.is_weight(Weight(top), top)
            self.is_weight(Weight(top, 1), top)

    def test_lowest_terms(self):
        made = {
            (7, 2): (7, 2), (14, 4): (7, 2), (2, 4): (1, 2), (4, 2): (2, 1), (6, 3): (2, 1), (6, 4): (3, 2),
            (12, 18): (2, 3), (100, 100): (1, 1), (1, 100): (1, 100), (50, 100): (1, 2), (99, 100): (99, 100),
            (10 ** 12, 10 ** 12): (1, 1), (10 ** 12, 10 ** 11): (10, 1), (30030, 2310): (13, 1),
        }
        for handed, due in made.items():
            with self.subTest(handed):
                self.is_weight(Weight(*handed), *due)

    def test_all_small_ones_are_in_lowest_terms(self):
        for top in range(25):
            for bottom in range(1, 25):
                weight = Weight(top, bottom)
                self.assertEqual(weight.top * bottom, top * weight.bottom)
                self.assertEqual(gcd(weight.top, weight.bottom), 1)
                self.assertGreater(weight.bottom, 0)

    def test_nought(self):
        for bottom in [1, 2, 3, 100, 10 ** 12, FORTY_NINES]:
            self.is_weight(Weight(0, bottom), 0, 1)

    def test_forty_figures(self):
        self.is_weight(Weight(FORTY_NINES, 10 ** 39), FORTY_NINES, 10 ** 39)
        self.is_weight(Weight(10 ** 39, FORTY_NINES), 10 ** 39, FORTY_NINES)
        self.is_weight(Weight(FORTY_NINES, FORTY_NINES), 1, 1)
        self.is_weight(Weight(FORTY_NINES, 9), FORTY_NINES // 9, 1)
        self.is_weight(Weight(3, FORTY_NINES), 1, FORTY_NINES // 3)

    def test_by_name_and_by_place(self):
        self.is_weight(Weight(top=14, bottom=4), 7, 2)
        self.is_weight(Weight(bottom=4, top=14), 7, 2)
        self.is_weight(Weight(14, bottom=4), 7, 2)
        self.is_weight(Weight(top=14), 14)

    def test_of_one_reckoned_however_great(self):
        great = great_weight()
        self.is_weight(Weight(great.top, great.bottom), great.top, great.bottom)
        self.is_weight(Weight(great.top * 6, great.bottom * 4), great.top * 3, great.bottom * 2)


class TestRefused(WeightCase):
    def refused(self, error, *handed):
        with self.subTest(handed=repr(handed)[:60]):
            with self.assertRaises(error) as caught:
                Weight(*handed)
            self.assertIs(caught.exception.__class__, error)

    def test_no_whole_of_the_bottom_0_whatever_the_top_is(self):
        for top in [0, 1, 7, 10 ** 12, FORTY_NINES] + BELOW_NOUGHT + NO_WHOLES:
            self.refused(NoWhole, top, 0)

    def test_no_weight_of_a_bottom_that_is_no_whole_number(self):
        for bottom in NO_WHOLES:
            for top in [0, 1, -1, True, None, "7"]:
                self.refused(NoWeight, top, bottom)

    def test_no_weight_of_a_bottom_below_0(self):
        for bottom in BELOW_NOUGHT:
            for top in [0, 1, 7, -1, -7, FORTY_NINES, True, None, "7"]:
                self.refused(NoWeight, top, bottom)

    def test_no_weight_of_a_top_that_is_no_whole_number(self):
        for top in NO_WHOLES:
            self.refused(NoWeight, top)
            for bottom in [1, 2, FORTY_NINES]:
                self.refused(NoWeight, top, bottom)

    def test_no_weight_of_a_top_below_0(self):
        for top in BELOW_NOUGHT:
            self.refused(NoWeight, top)
            for bottom in [1, 2, 7, FORTY_NINES]:
                self.refused(NoWeight, top, bottom)

    def test_truths_are_no_whole_numbers(self):
        self.refused(NoWeight, True)
        self.refused(NoWeight, False)
        self.refused(NoWeight, 1, True)
        self.refused(NoWeight, 1, False)
        self.refused(NoWeight, 0, False)
        self.refused(NoWeight, True, True)
        self.refused(NoWhole, True, 0)
        self.refused(NoWhole, False, 0)

    def test_by_name(self):
        with self.assertRaises(NoWhole):
            Weight(top=None, bottom=0)
        with self.assertRaises(NoWeight):
            Weight(bottom=None, top=0)


class TestPlus(WeightCase):
    def test_sums(self):
        sums = [
            ((0,), (0,), (0,)), ((0,), (7, 2), (7, 2)), ((1,), (2,), (3,)), ((1, 2), (1, 2), (1,)),
            ((1, 2), (1, 3), (5, 6)), ((1, 6), (1, 3), (1, 2)), ((7, 2), (1,), (9, 2)), ((3, 4), (5, 4), (2,)),
            ((22, 7), (1, 49), (155, 49)), ((10 ** 12,), (1, 10 ** 12), (10 ** 24 + 1, 10 ** 12)),
        ]
        for one, other, due in sums:
            with self.subTest(one=one, other=other):
                self.is_weight(Weight(*one).plus(Weight(*other)), *due)
                self.is_weight(Weight(*other).plus(Weight(*one)), *due)

    def test_neither_is_changed(self):
        one, other = Weight(1, 2), Weight(1, 3)
        one.plus(other)
        self.assertEqual((fields(one), fields(other)), ((1, 2), (1, 3)))

    def test_with_itself(self):
        one = Weight(3, 2)
        self.is_weight(one.plus(one), 3)
        self.is_weight(one, 3, 2)

    def test_by_name(self):
        self.is_weight(Weight(1).plus(other=Weight(1, 2)), 3, 2)


class TestLess(WeightCase):
    def test_what_is_left(self):
        rests = [
            ((0,), (0,), (0,)), ((7, 2), (0,), (7, 2)), ((7, 2), (7, 2), (0,)), ((3,), (2,), (1,)),
            ((1,), (1, 3), (2, 3)), ((1, 2), (1, 3), (1, 6)), ((1, 2), (1, 6), (1, 3)), ((9, 2), (1,), (7, 2)),
            ((10 ** 12,), (1, 10 ** 12), (10 ** 24 - 1, 10 ** 12)), ((FORTY_NINES,), (FORTY_NINES - 1,), (1,)),
        ]
        for one, other, due in rests:
            with self.subTest(one=one, other=other):
                self.is_weight(Weight(*one).less(Weight(*other)), *due)

    def test_short_tells_what_lacks(self):
        shorts = [
            ((0,), (1,), (1,)), ((0,), (1, 7), (1, 7)), ((2,), (3,), (1,)), ((1, 3), (1,), (2, 3)),
            ((1, 3), (1, 2), (1, 6)), ((7, 2), (9, 2), (1,)), ((1, 6), (1, 2), (1, 3)),
            ((FORTY_NINES - 1,), (FORTY_NINES,), (1,)), ((1,), (10 ** 12 + 1, 10 ** 12), (1, 10 ** 12)),
        ]
        for one, other, due in shorts:
            with self.subTest(one=one, other=other):
                with self.assertRaises(Short) as caught:
                    Weight(*one).less(Weight(*other))
                self.assertIs(caught.exception.__class__, Short)
                self.is_weight(caught.exception.lacks, *due)

    def test_neither_is_changed(self):
        one, other = Weight(1, 2), Weight(1, 3)
        one.less(other)
        with self.assertRaises(Short):
            other.less(one)
        self.assertEqual((fields(one), fields(other)), ((1, 2), (1, 3)))

    def test_less_is_what_plus_is_not(self):
        for one in SOME:
            for other in SOME:
                self.is_weight(Weight(*one).plus(Weight(*other)).less(Weight(*other)), *one)

    def test_by_name(self):
        self.is_weight(Weight(1).less(other=Weight(1, 3)), 2, 3)


class TestTimes(WeightCase):
    def test_without_a_bottom(self):
        products = [((7, 2), 1, (7, 2)), ((7, 2), 2, (7,)), ((7, 2), 3, (21, 2)), ((7, 2), 0, (0,)), ((0,), 9, (0,)),
                    ((5,), 10 ** 12, (5 * 10 ** 12,)), ((1, 10 ** 12), 10 ** 12, (1,))]
        for one, top, due in products:
            with self.subTest(one=one, top=top):
                self.is_weight(Weight(*one).times(top), *due)

    def test_with_a_bottom(self):
        products = [((7, 2), 1, 1, (7, 2)), ((7, 2), 1, 2, (7, 4)), ((7, 2), 2, 7, (1,)), ((6,), 1, 4, (3, 2)),
                    ((6,), 2, 4, (3,)), ((0,), 1, 9, (0,)), ((9, 5), 0, 9, (0,)), ((1,), 99, 100, (99, 100)),
                    ((100, 3), 97, 100, (97, 3)), ((1,), 10 ** 12, 10 ** 12 - 1, (10 ** 12, 10 ** 12 - 1))]
        for one, top, bottom, due in products:
            with self.subTest(one=one, top=top, bottom=bottom):
                self.is_weight(Weight(*one).times(top, bottom), *due)

    def test_it_is_not_changed(self):
        one = Weight(7, 2)
        one.times(5, 3)
        one.times(2)
        self.is_weight(one, 7, 2)

    def test_by_name_and_by_place(self):
        self.is_weight(Weight(7, 2).times(top=3), 21, 2)
        self.is_weight(Weight(7, 2).times(top=3, bottom=5), 21, 10)
        self.is_weight(Weight(7, 2).times(bottom=5, top=3), 21, 10)
        self.is_weight(Weight(7, 2).times(3, bottom=5), 21, 10)


class TestIsBelow(unittest.TestCase):
    RISING = [(0,), (1, FORTY_NINES), (1, 10 ** 12), (1, 3), (1, 2), (2, 3), (99, 100), (1,), (101, 100), (3, 2),
              (2,), (7, 2), (4,), (9,), (10,), (10 ** 12,), (FORTY_NINES - 1,), (FORTY_NINES,)]

    def test_each_beside_each(self):
        for one_at, one in enumerate(self.RISING):
            for other_at, other in enumerate(self.RISING):
                with self.subTest(one=one, other=other):
                    self.assertIs(Weight(*one).is_below(Weight(*other)), one_at < other_at)

    def test_by_name(self):
        self.assertIs(Weight(1).is_below(other=Weight(2)), True)
        self.assertIs(Weight(2).is_below(other=Weight(1)), False)


class TestIsNought(unittest.TestCase):
    def test_nought(self):
        for weight in [Weight(0), Weight(0, 7), Weight(7, 2).less(Weight(7, 2)), Weight(7, 2).times(0)]:
            self.assertIs(weight.is_nought(), True)

    def test_not_nought(self):
        for weight in [Weight(1), Weight(1, 2), Weight(7, 2), Weight(1, FORTY_NINES), Weight(FORTY_NINES)]:
            self.assertIs(weight.is_nought(), False)


class TestWholeUp(unittest.TestCase):
    def check(self, handed, due):
        with self.subTest(handed):
            self.assertEqual(Weight(*handed).whole_up(), due)
            self.assertIs(Weight(*handed).whole_up().__class__, int)

    def test_at_a_whole_one(self):
        for top in [0, 1, 2, 3, 30, 10 ** 12, FORTY_NINES]:
            self.check((top,), top)
        self.check((14, 2), 7)

    def test_just_above_a_whole_one(self):
        for bottom in [2, 3, 100, 10 ** 12, FORTY_NINES]:
            self.check((1, bottom), 1)
            self.check((bottom + 1, bottom), 2)
            self.check((7 * bottom + 1, bottom), 8)

    def test_just_below_a_whole_one(self):
        for bottom in [2, 3, 100, 10 ** 12, FORTY_NINES]:
            self.check((bottom - 1, bottom), 1)
            self.check((2 * bottom - 1, bottom), 2)
            self.check((8 * bottom - 1, bottom), 8)

    def test_between(self):
        self.check((7, 2), 4)
        self.check((22, 7), 4)
        self.check((17, 5), 4)

    def test_it_is_the_least_that_is_no_less(self):
        for top in range(40):
            for bottom in range(1, 12):
                weight = Weight(top, bottom)
                whole = weight.whole_up()
                self.assertFalse(Weight(whole).is_below(weight))
                self.assertTrue(whole == 0 or Weight(whole - 1).is_below(weight))


class TestTotal(WeightCase):
    def test_of_none(self):
        self.is_weight(total(()), 0)

    def test_of_one(self):
        self.is_weight(total((Weight(7, 2),)), 7, 2)
        self.is_weight(total((Weight(0),)), 0)

    def test_of_several(self):
        self.is_weight(total((Weight(1, 2), Weight(1, 3))), 5, 6)
        self.is_weight(total((Weight(1, 2), Weight(1, 3), Weight(1, 6))), 1)
        self.is_weight(total((Weight(7, 2), Weight(0), Weight(3), Weight(1, 2))), 7)
        self.is_weight(total((Weight(1, 2),) * 24), 12)

    def test_none_is_changed(self):
        weights = (Weight(1, 2), Weight(1, 3))
        total(weights)
        self.assertEqual([fields(weight) for weight in weights], [(1, 2), (1, 3)])
        self.is_weight(total(weights), 5, 6)

    def test_by_name(self):
        self.is_weight(total(weights=(Weight(1), Weight(2))), 3)


class TestEqual(unittest.TestCase):
    def test_just_those_with_the_same_fields(self):
        for one in SOME:
            for other in SOME:
                with self.subTest(one=one, other=other):
                    self.assertIs(Weight(*one) == Weight(*other), one == other)
                    self.assertIs(Weight(*one) != Weight(*other), one != other)

    def test_however_they_were_made(self):
        for weight in [Weight(14, 4), Weight(3).plus(Weight(1, 2)), Weight(7).times(1, 2), read_weight("7/2")]:
            self.assertIs(weight == Weight(7, 2), True)
            self.assertIs(weight != Weight(7, 2), False)

    def test_one_field_alike_is_not_enough(self):
        self.assertIs(Weight(7, 2) == Weight(7, 3), False)
        self.assertIs(Weight(7, 2) == Weight(5, 2), False)
        self.assertIs(Weight(7, 2) == Weight(2, 7), False)
        self.assertIs(Weight(7, 2) != Weight(7, 3), True)

    def test_to_nothing_of_another_kind(self):
        others = [thing for thing in OTHER_KINDS if not isinstance(thing, Weight)]
        for other in others + ODD_TEXTS + ["7/2", "7", "1", 0, 1, 7, (7, 2), [7, 2], {7: 2}]:
            for weight in [Weight(0), Weight(1), Weight(7), Weight(7, 2)]:
                with self.subTest(other=repr(other)[:60], weight=str(weight)):
                    self.assertIs(weight == other, False)
                    self.assertIs(other == weight, False)
                    self.assertIs(weight != other, True)
                    self.assertIs(other != weight, True)
                    self.assertIs(weight.__eq__(other), False)

    def test_in_and_count(self):
        weights = (Weight(1), 1, Weight(7, 2), "7/2", Weight(14, 4), (7, 2), None)
        self.assertIn(Weight(7, 2), weights)
        self.assertIn(Weight(2, 2), weights)
        self.assertNotIn(Weight(2, 7), weights)
        self.assertNotIn(Weight(0), weights)
        self.assertEqual(weights.count(Weight(7, 2)), 2)
        self.assertEqual(weights.count(Weight(1)), 1)
        self.assertEqual(weights.count(1), 1)
        self.assertEqual(weights.count(Weight(3)), 0)
        self.assertEqual(weights.index(Weight(7, 2)), 2)

    def test_within_tuples_and_lists(self):
        self.assertEqual((("ale", Weight(7, 2)),), (("ale", Weight(14, 4)),))
        self.assertNotEqual((("ale", Weight(7, 2)),), (("ale", Weight(7)),))
        self.assertEqual([Weight(0), [Weight(1)]], [Weight(0, 3), [Weight(5, 5)]])


class TestNeverChanged(WeightCase):
    def test_whatever_is_asked_of_it_and_asked_twice(self):
        for handed in SOME:
            one, other = Weight(*handed), Weight(1, 6)
            told = []
            for _ in range(2):
                told.append((one.plus(other), other.plus(one), one.plus(other).less(one), one.times(3), one.times(2, 3),
                             one.is_below(other), other.is_below(one), one.is_nought(), one.whole_up(), one == other,
                             str(one), repr(one), total((one, other))))
                self.is_weight(one, *handed)
                self.is_weight(other, 1, 6)
            self.assertEqual(told[0], told[1])


class TestShown(unittest.TestCase):
    def test_str(self):
        shown = {(0,): "0", (1,): "1", (7, 2): "7/2", (14, 4): "7/2", (4, 2): "2", (3,): "3", (1, 100): "1/100",
                 (10,): "10", (100, 7): "100/7", (10 ** 12, 7): "1000000000000/7", (0, 5): "0",
                 (FORTY_NINES,): "9" * 40, (FORTY_NINES, 10 ** 39): "9" * 40 + "/1" + "0" * 39}
        for handed, due in shown.items():
            with self.subTest(handed):
                self.assertEqual(str(Weight(*handed)), due)

    def test_repr(self):
        shown = {(0,): "Weight(0)", (1,): "Weight(1)", (7, 2): "Weight(7, 2)", (14, 4): "Weight(7, 2)",
                 (4, 2): "Weight(2)", (3, 1): "Weight(3)", (1, 100): "Weight(1, 100)", (0, 5): "Weight(0)",
                 (10 ** 12, 7): "Weight(1000000000000, 7)",
                 (10 ** 39, FORTY_NINES): "Weight(1" + "0" * 39 + ", " + "9" * 40 + ")"}
        for handed, due in shown.items():
            with self.subTest(handed):
                self.assertEqual(repr(Weight(*handed)), due)

    def test_within_tuples_and_lists(self):
        weights = (Weight(7, 2), Weight(3))
        self.assertEqual(str(weights), "(Weight(7, 2), Weight(3))")
        self.assertEqual(repr(weights), "(Weight(7, 2), Weight(3))")
        self.assertEqual(str(list(weights)), "[Weight(7, 2), Weight(3)]")
        self.assertEqual(repr((("ale", Weight(1, 2)),)), "(('ale', Weight(1, 2)),)")
        self.assertEqual(repr({"ale": [Weight(0)]}), "{'ale': [Weight(0)]}")
        self.assertEqual(f"{weights[0]} {weights[0]!r}", "7/2 Weight(7, 2)")


class TestGreat(WeightCase):
    """Weights that are reckoned may be far greater than those that are handed in first."""

    def test_shown(self):
        great = great_weight()
        top, bottom = in_figures(great.top), in_figures(great.bottom)
        self.assertGreater(min(len(top), len(bottom)), 7000)
        self.assertEqual(str(great), top + "/" + bottom)
        self.assertEqual(repr(great), "Weight(" + top + ", " + bottom + ")")
        self.assertEqual(str([great]), "[Weight(" + top + ", " + bottom + ")]")

    def test_shown_with_every_count_of_figures(self):
        lengths = [511, 512, 513, 1023, 1024, 1025, 1536, 4299, 4300, 4301, 5000, 9000]
        for length in list(range(1, 60)) + lengths:
            for text in ["1" + "0" * (length - 1), "9" * length, ("1234567890" * length)[:length],
                         "7" + "0" * (length - 1) + "1"]:
                weight = weight_of_figures(text)
                self.assertEqual(str(weight), text)
                self.assertEqual(repr(weight), "Weight(" + text + ")")

    def test_reckoned_on(self):
        great = great_weight()
        self.is_weight(great.plus(great), great.top * 2, great.bottom)
        self.is_weight(great.times(7, 3), great.top * 7 // gcd(great.top * 7, great.bottom * 3),
                       great.bottom * 3 // gcd(great.top * 7, great.bottom * 3))
        self.is_weight(great.less(great), 0)
        self.assertIs(great.less(Weight(1, great.bottom)).is_below(great), True)
        self.assertIs(great.is_below(great), False)
        self.assertIs(great.is_nought(), False)
        self.assertEqual(great.whole_up(), great.top // great.bottom + 1)
        self.assertEqual(Weight(great.whole_up()).whole_up(), great.whole_up())
        self.is_weight(total((great, great, great)), great.top * 3, great.bottom)
        self.assertEqual(great.times(great.bottom, great.top), Weight(1))

    def test_equal(self):
        self.assertIs(great_weight() == great_weight(), True)
        self.assertIs(great_weight() == great_weight().plus(Weight(1, 10 ** 12)), False)

    def test_what_lacks(self):
        great = great_weight()
        with self.assertRaises(Short) as caught:
            great.less(great.plus(Weight(1, 3)))
        self.is_weight(caught.exception.lacks, 1, 3)


class TestReadWeight(WeightCase):
    def refused(self, text):
        with self.subTest(repr(text)[:60]):
            with self.assertRaises(NoText) as caught:
                read_weight(text)
            self.assertIs(caught.exception.__class__, NoText)
            self.assertEqual(caught.exception.row, 0)
            self.assertIs(caught.exception.row.__class__, int)

    def test_what_str_tells_is_read(self):
        for top in list(range(40)) + [99, 100, 101, 10 ** 11, TWELVE_NINES]:
            for bottom in list(range(1, 30)) + [10 ** 11, TWELVE_NINES]:
                weight = Weight(top, bottom)
                self.is_weight(read_weight(str(weight)), weight.top, weight.bottom)

    def test_texts(self):
        texts = {"0": (0, 1), "1": (1, 1), "7": (7, 1), "10": (10, 1), "7/2": (7, 2), "1/100": (1, 100),
                 "10/3": (10, 3), "1/10": (1, 10), "22/7": (22, 7), "2/3": (2, 3), "1234567890": (1234567890, 1)}
        for text, due in texts.items():
            with self.subTest(text):
                self.is_weight(read_weight(text), *due)

    def test_twelve_figures_each(self):
        self.is_weight(read_weight("9" * 12), TWELVE_NINES)
        self.is_weight(read_weight("1" + "0" * 11), 10 ** 11)
        self.is_weight(read_weight("1/" + "9" * 12), 1, TWELVE_NINES)
        self.is_weight(read_weight("9" * 12 + "/2"), TWELVE_NINES, 2)
        self.is_weight(read_weight("9" * 12 + "/" + "9" * 11 + "8"), TWELVE_NINES, TWELVE_NINES - 1)

    def test_thirteen_figures(self):
        for text in ["1" + "0" * 12, "9" * 13, "1/1" + "0" * 12, "1/" + "9" * 13, "9" * 13 + "/2", "1" + "0" * 12 + "/3",
                     "9" * 13 + "/" + "9" * 12 + "8", "0" * 12 + "1", "1/" + "0" * 12 + "2", "9" * 12 + "/1" + "0" * 12]:
            self.refused(text)

    def test_noughts_ahead(self):
        for text in ["00", "01", "007", "07/2", "7/02", "00/1", "0/01", "000000000000", "000000000007", "00000000000000"]:
            self.refused(text)

    def test_signs(self):
        for sign in ["+", "-", "_", ".", ",", "e", "x", "a", "'", "(", ")", "\"", "%", "\\", "0x", "0b", "*", "#", ":"]:
            for text in ["7", "7/2"]:
                for at in range(len(text) + 1):
                    self.refused(text[:at] + sign + text[at:])
        for text in ["+7", "-7", "+0", "-0", "7/+2", "7/-2", "-7/-2", "1_000", "1_000/3", "7/1_0", "1e3", "7.0", "3.5",
                     "0x7", "7a", "a7", "7/2a", "7//2", "Weight(7, 2)", "Weight(7)", "7, 2"]:
            self.refused(text)

    def test_blanks_and_line_ends(self):
        for sign in [" ", "  ", "\n", "\n\n", " \n"]:
            for text in ["0", "7", "7/2", "22/7", "7/22"]:
                for at in range(len(text) + 1):
                    self.refused(text[:at] + sign + text[at:])
            self.refused(sign)

    def test_strokes(self):
        for text in ["/", "//", "7/", "/2", "7//2", "7/2/", "/7/2", "7/2/3", "7/2/1", "7/1/1", "/7", "0/", "/0", "1/1/1"]:
            self.refused(text)

    def test_not_in_lowest_terms(self):
        for text in ["2/4", "14/4", "4/2", "6/3", "0/2", "0/7", "7/7", "100/10", "6/4", "2/2", "9" * 12 + "/3"]:
            self.refused(text)

    def test_bottom_0_and_1(self):
        for text in ["0/0", "1/0", "7/0", "7/00", "0/1", "1/1", "7/1", "9" * 12 + "/1", "9" * 12 + "/0"]:
            self.refused(text)

    def test_great_texts(self):
        for text in ["1" * 5000, "9" * 5000, "0" * 5000, "1" + "0" * 4999, "1/" + "3" * 5000, "1" * 5000 + "/3",
                     "1" * 3000 + "/" + "7" * 3000, "7" * 8000, "/" * 8000, " " * 7999 + "7",
                     str(great_weight())[:8000]]:
            self.refused(text)

    def test_other_texts(self):
        for text in ODD_TEXTS + ["ale", "ann", "c1", "ale 7/2", "7/2 ale"]:
            self.refused(text)

    def test_no_texts(self):
        for thing in OTHER_KINDS + [0, 1, 7, -1, 10 ** 12, FORTY_NINES, -FORTY_NINES]:
            self.refused(thing)

    def test_by_name(self):
        self.is_weight(read_weight(text="7/2"), 7, 2)
        with self.assertRaises(NoText):
            read_weight(text=None)

    def test_nothing_that_is_handed_in_is_changed(self):
        for thing in [["7/2"], {"7": [2]}, ([["7"]],)]:
            ahead = copy.deepcopy(thing)
            self.refused(thing)
            self.assertEqual(thing, ahead)


if __name__ == "__main__":
    unittest.main()
