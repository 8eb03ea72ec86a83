"""Promise 4: names, wares, marks, grains, days."""

import copy
import unittest

from casknotes.names import is_day, is_grains, is_mark, is_name, mark_number
from things import FORTY_NINES, ODD_TEXTS, OTHER_KINDS

LETTERS = "abcdefghijklmnopqrstuvwxyz"
SIXTEENS = "0123456789abcdef"
# All signs that a text may have.
SIGNS = "\n" + "".join([chr(at) for at in range(32, 127)])
NUMBERS = [0, 1, -1, 2, 7, 30, 1199, 1200, 1201, 10 ** 12, FORTY_NINES, -FORTY_NINES]


class Judged(unittest.TestCase):
    def check(self, judge, things, due):
        for thing in things:
            with self.subTest(thing=repr(thing)[:60]):
                self.assertIs(judge(thing), due)


class TestIsName(Judged):
    def test_names(self):
        self.check(is_name, ["ann", "bo", "ale", "rum", "c", "cab", "none", "true"], True)
        self.check(is_name, list(LETTERS), True)

    def test_lengths(self):
        self.check(is_name, ["a", "z", "ab", "abcdefg", "abcdefgh", "zzzzzzzz"], True)
        self.check(is_name, ["", "abcdefghi", "zzzzzzzzz", "a" * 16, "a" * 8000], False)

    def test_just_the_letters_a_to_z(self):
        for sign in SIGNS:
            due = sign in LETTERS
            self.check(is_name, [sign, "a" + sign, sign + "a", "ab" + sign + "cd", "abcdefg" + sign], due)

    def test_no_great_letter(self):
        self.check(is_name, ["A", "Ann", "aNn", "anN", "ANN"], False)

    def test_no_line_end(self):
        self.check(is_name, ["ann\n", "\nann", "a\nn", "abcdefg\n", "abcdefgh\n", "\n", "a\n"], False)

    def test_no_other_text(self):
        self.check(is_name, ODD_TEXTS + ["c1", "ann1", "1", "0", "a,b", "ann ", " ann"], False)

    def test_no_other_thing(self):
        self.check(is_name, OTHER_KINDS + NUMBERS, False)


class TestIsMark(Judged):
    def test_marks(self):
        self.check(is_mark, ["c1", "c1f", "c4", "ca", "c10", "cafe", "cfade", "cccccc"], True)

    def test_lengths(self):
        self.check(is_mark, ["c0", "c9", "cf", "c100000", "cffffff", "c123456", "cabcdef"], True)
        self.check(is_mark, ["c", "", "c1234567", "c1000000", "cfffffff", "c" + "1" * 7999], False)

    def test_just_the_figures_0_to_9_and_a_to_f(self):
        for sign in SIGNS:
            due = sign in SIXTEENS
            self.check(is_mark, ["c" + sign, "c1" + sign, "c1" + sign + "a", "c12345" + sign], due)

    def test_it_begins_with_c(self):
        for sign in SIGNS:
            self.check(is_mark, [sign + "1", sign + "1f"], sign == "c")
        self.check(is_mark, ["1", "1f", "0", "123456", "C1", "cC1", "cc1z", "xc1"], False)

    def test_no_nought_ahead_but_in_0_itself(self):
        self.check(is_mark, ["c0", "c10", "c100", "c101", "ca0", "c900000"], True)
        self.check(is_mark, ["c00", "c01", "c0a", "c0f1", "c000000", "c000001", "c0000001"], False)

    def test_no_great_figure(self):
        self.check(is_mark, ["cA", "cF", "c1F", "c1fA", "CF"], False)

    def test_no_line_end(self):
        self.check(is_mark, ["c1\n", "\nc1", "c\n1", "c\n", "c0\n", "c12345\n", "c123456\n"], False)

    def test_no_other_text(self):
        more = ["ann", "c1g", "c-1", "c+1", "c 1", "c1 ", " c1", "c1_0", "c1.0", "c0x1", "0x1", "c1,c2"]
        self.check(is_mark, ODD_TEXTS + more, False)

    def test_no_other_thing(self):
        self.check(is_mark, OTHER_KINDS + NUMBERS, False)


class TestIsGrains(Judged):
    def test_grains(self):
        self.check(is_grains, [1, 2, 3, 12, 1200, 1201, 10 ** 12, 10 ** 12 + 1, FORTY_NINES], True)

    def test_from_1_on(self):
        self.check(is_grains, [0, -1, -2, -12, -1200, -10 ** 12, -FORTY_NINES], False)

    def test_no_text(self):
        self.check(is_grains, ODD_TEXTS + ["1", "12", "ann", "c1"], False)

    def test_no_other_thing(self):
        self.check(is_grains, OTHER_KINDS, False)


class TestIsDay(Judged):
    def test_days(self):
        self.check(is_day, [0, 1, 2, 29, 30, 31, 600, 1199, 1200], True)
        self.check(is_day, list(range(1201)), True)

    def test_up_to_1200(self):
        self.check(is_day, [1201, 1202, 1230, 12000, 10 ** 12, FORTY_NINES], False)

    def test_from_0_on(self):
        self.check(is_day, [-1, -2, -30, -1200, -FORTY_NINES], False)

    def test_no_text(self):
        self.check(is_day, ODD_TEXTS + ["0", "1", "30", "ann", "c1"], False)

    def test_no_other_thing(self):
        self.check(is_day, OTHER_KINDS, False)


class TestMarkNumber(unittest.TestCase):
    def test_it_is_written_in_sixteens(self):
        numbers = {
            "c0": 0, "c1": 1, "c9": 9, "ca": 10, "cb": 11, "cc": 12, "cd": 13, "ce": 14, "cf": 15,
            "c10": 16, "c1f": 31, "c20": 32, "cff": 255, "c100": 256, "ccab": 3243, "cfff": 4095,
            "c1000": 4096, "ccafe": 51966, "cfade1": 1027553, "c100000": 1048576, "cabcdef": 11259375,
            "cffffff": 16777215,
        }
        for mark, number in numbers.items():
            with self.subTest(mark):
                self.assertEqual(mark_number(mark), number)
                self.assertIs(mark_number(mark).__class__, int)

    def test_each_figure_at_each_place(self):
        for place in range(6):
            for worth, figure in enumerate(SIXTEENS[1:], 1):
                self.assertEqual(mark_number("c" + figure + "0" * place), worth * 16 ** place)
        for place in range(5):
            for worth, figure in enumerate(SIXTEENS):
                self.assertEqual(mark_number("c1" + "0" * place + figure), 16 ** (place + 1) + worth)

    def test_marks_stand_by_their_numbers(self):
        rising = ["c0", "c1", "c9", "ca", "cf", "c10", "c19", "c1a", "c9f", "ca0", "cff", "c100", "c1000", "ca000",
                  "c10000", "cfffff", "c100000", "cffffff"]
        self.assertEqual(sorted(sorted(rising), key=mark_number), rising)
        self.assertLess(mark_number("c9"), mark_number("ca"))
        self.assertLess(mark_number("cf"), mark_number("c10"))


class TestArguments(unittest.TestCase):
    def test_by_name_and_by_place(self):
        self.assertIs(is_name(thing="ann"), is_name("ann"))
        self.assertIs(is_name(thing="Ann"), is_name("Ann"))
        self.assertIs(is_mark(thing="c1"), is_mark("c1"))
        self.assertIs(is_mark(thing="ann"), is_mark("ann"))
        self.assertIs(is_grains(thing=1), is_grains(1))
        self.assertIs(is_grains(thing=0), is_grains(0))
        self.assertIs(is_day(thing=0), is_day(0))
        self.assertIs(is_day(thing=1201), is_day(1201))
        self.assertEqual(mark_number(mark="c1f"), mark_number("c1f"))

    def test_nothing_that_is_handed_in_is_changed(self):
        for judge in [is_name, is_mark, is_grains, is_day]:
            for thing in [["a", 1], {"a": [1]}, [[["c1"]]], ({"c1": [0]},)]:
                ahead = copy.deepcopy(thing)
                judge(thing)
                self.assertEqual(thing, ahead)


if __name__ == "__main__":
    unittest.main()
