"""Promise 9: dryings, the turns of months, what is dried."""

import copy
import itertools
import unittest
from fractions import Fraction

from casknotes.casks import Cask
from casknotes.drying import dried, dried_weight, is_drying, turns
from casknotes.notes import Note
from casknotes.weights import Weight
from things import FORTY_NINES, ODD_TEXTS, OTHER_KINDS, great_weight, nested

W = Weight
ALE = ("ale", 1, 10)
GIN = ("gin", 0, 1)
RUM = ("rum", 99, 100)
TEA = ("tea", 2, 4)
DRYING = (ALE, GIN, RUM, TEA)

DRYINGS = [
    (), (ALE,), (ALE, RUM), (ALE, GIN, RUM), DRYING, (("a", 1, 2), ("aa", 1, 2), ("ab", 1, 2), ("b", 1, 2)),
    (("ale", 0, 1),), (("ale", 0, 100),), (("ale", 1, 2),), (("ale", 98, 99),), (("ale", 99, 100),),
    (("ale", 50, 100),), (("zzzzzzzz", 1, 100),),
]
NO_DRYINGS = [
    (("a", 1, 2), ("b", 1, 2), ("c", 1, 2), ("d", 1, 2), ("e", 1, 2)),
    (RUM, ALE), (ALE, ALE), (ALE, ("ale", 1, 9)), (ALE, RUM, GIN), (ALE, RUM, RUM), (("aa", 1, 2), ("a", 1, 2)),
    (("ale", -1, 10),), (("ale", 1, 1),), (("ale", 2, 1),), (("ale", 0, 0),), (("ale", 1, 0),), (("ale", 100, 100),),
    (("ale", 1, 101),), (("ale", 100, 101),), (("ale", 0, 101),), (("ale", -2, -1),), (("ale", 0, -1),),
    (("ale", 1, FORTY_NINES),), (("ale", FORTY_NINES, 100),), (("ale", -FORTY_NINES, 100),), (ALE, ("rum", 1, 101)),
    (("ale", False, 1),), (("ale", 0, True),), (("ale", True, 2),), (("ale", False, True),), (("ale", None, 2),),
    (("ale", "1", 2),), (("ale", 1, "2"),), (("ale", 1, None),), (("ale", W(1), 2),), (("ale", 1, W(2)),),
    (("ale", W(1, 2)),), (("ale", (1, 2)),), (("ale", [1], 2),), (("ale", 1, (2,)),), (("ale",),), ((),), (ALE, ()),
    (("ale", 1),), (("ale", 1, 2, 3),), (("ale", 1, 2, None),), ((1, 2, "ale"),), (("ale", "rum", 2),), ((1, 1, 2),),
    (("", 1, 2),), (("Ale", 1, 2),), (("abcdefghi", 1, 2),), (("c1", 1, 2),), (("ale\n", 1, 2),), ((None, 1, 2),),
    ((True, 1, 2),), ((("ale",), 1, 2),), ((["ale"], 1, 2),), ((W(1), 1, 2),), ((Note("ann", "ale", 12), 1, 2),),
    [], [ALE], [ALE, RUM], (["ale", 1, 10],), (ALE, ["rum", 1, 2]), {"ale": (1, 10)}, ({"ale": (1, 10)},), ALE,
    ("ale", 1, 10), ((ALE,),), (DRYING,), (None,), (ALE, None), ("ale",), ("ale",) * 4, "ale 1/10", ("ale 1/10",),
    (nested("ale", tuple, 29),), (nested(ALE, list, 27),), ((nested("ale", dict, 20), 1, 2),), (ALE,) * 1500,
    Cask("c0", 4), (Cask("c0", 4),), (("ale", W(1), W(2)),),
] + [thing for thing in OTHER_KINDS if thing != ()] + ODD_TEXTS + ["ale", 0, 1, 2, -1]


class DryingCase(unittest.TestCase):
    def is_weight(self, weight, due):
        """It is just a Weight worth this share, a Fraction."""
        self.assertIs(weight.__class__, Weight)
        self.assertEqual((weight.top, weight.bottom), (due.numerator, due.denominator))

    def is_dried(self, cask, mark, since, dues):
        self.assertIs(cask.__class__, Cask)
        self.assertEqual((cask.mark, cask.since), (mark, since))
        self.assertIs(cask.parts.__class__, tuple)
        self.assertEqual([part.__class__ for part in cask.parts], [tuple] * len(dues))
        self.assertEqual([ware for ware, _ in cask.parts], [ware for ware, _ in dues])
        for (_, weight), (_, due) in zip(cask.parts, dues):
            self.is_weight(weight, due)


class TestIsDrying(unittest.TestCase):
    def test_dryings(self):
        for thing in DRYINGS:
            with self.subTest(thing):
                self.assertIs(is_drying(thing), True)

    def test_no_dryings(self):
        for thing in NO_DRYINGS:
            with self.subTest(repr(thing)[:60]):
                self.assertIs(is_drying(thing), False)

    def test_all_tops_and_bottoms(self):
        for top in range(-2, 104):
            for bottom in range(-2, 104):
                self.assertIs(is_drying((("ale", top, bottom),)), 0 <= top < bottom <= 100)

    def test_rising_in_one_order_alone(self):
        for drying in itertools.permutations(DRYING):
            self.assertIs(is_drying(drying), drying == DRYING)

    def test_what_is_handed_in_stays(self):
        for thing in [[["ale", 1, 2]], (["ale", [1], 2],), {"ale": [1, 2]}]:
            ahead = copy.deepcopy(thing)
            is_drying(thing)
            self.assertEqual(thing, ahead)

    def test_by_name(self):
        self.assertIs(is_drying(thing=DRYING), True)
        self.assertIs(is_drying(thing=None), False)


class TestTurns(unittest.TestCase):
    def test_some(self):
        many = {(0, 0): 0, (0, 1): 0, (0, 29): 0, (0, 30): 1, (0, 31): 1, (0, 59): 1, (0, 60): 2, (0, 1200): 40,
                (1, 29): 0, (1, 30): 1, (29, 30): 1, (29, 31): 1, (30, 30): 0, (30, 31): 0, (30, 59): 0, (30, 60): 1,
                (31, 59): 0, (31, 60): 1, (31, 90): 2, (45, 100): 2, (60, 60): 0, (60, 1200): 38, (1170, 1200): 1,
                (1171, 1200): 1, (1199, 1200): 1, (1200, 1200): 0, (1170, 1199): 0, (1169, 1199): 1}
        for (day, until), due in many.items():
            with self.subTest(day=day, until=until):
                self.assertEqual(turns(day, until), due)
                self.assertIs(turns(day, until).__class__, int)

    def test_from_each_day_to_itself(self):
        for day in range(1201):
            self.assertEqual(turns(day, day), 0)

    def test_counted_day_by_day(self):
        for day in list(range(0, 130)) + [900, 929, 930, 931]:
            for until in range(day, min(day + 150, 1201)):
                due = len([turned for turned in range(day + 1, until + 1) if turned % 30 == 0])
                self.assertEqual(turns(day, until), due)

    def test_in_several_steps(self):
        for steps in [(0, 30, 60, 90), (0, 29, 30, 31, 59, 60, 61), (5, 5, 35, 65, 65), (0, 1, 2, 600, 1200)]:
            self.assertEqual(sum([turns(day, until) for day, until in zip(steps, steps[1:])]), turns(steps[0], steps[-1]))

    def test_by_name_and_by_place(self):
        self.assertEqual(turns(day=29, until=91), 3)
        self.assertEqual(turns(until=91, day=29), 3)
        self.assertEqual(turns(29, until=91), 3)


class TestDriedWeight(DryingCase):
    def test_of_wares_that_it_has(self):
        for many in [0, 1, 2, 3, 7, 40]:
            for (ware, top, bottom) in DRYING:
                for worth in [Fraction(1), Fraction(7, 2), Fraction(10 ** 12), Fraction(1, 3), Fraction(FORTY_NINES, 7)]:
                    weight = W(worth.numerator, worth.denominator)
                    due = worth * Fraction(bottom - top, bottom) ** many
                    self.is_weight(dried_weight(weight, ware, DRYING, many), due)

    def test_some(self):
        self.is_weight(dried_weight(W(100), "ale", DRYING, 1), Fraction(90))
        self.is_weight(dried_weight(W(100), "ale", DRYING, 2), Fraction(81))
        self.is_weight(dried_weight(W(100), "ale", DRYING, 3), Fraction(729, 10))
        self.is_weight(dried_weight(W(100), "rum", DRYING, 2), Fraction(1, 100))
        self.is_weight(dried_weight(W(3), "tea", DRYING, 5), Fraction(3, 32))
        self.is_weight(dried_weight(W(3), "gin", DRYING, 40), Fraction(3))

    def test_of_wares_that_it_has_not(self):
        for drying in [(), (ALE,), DRYING]:
            for many in [0, 1, 2, 40]:
                for ware in ["al", "ales", "a", "zed", "rums"]:
                    self.is_weight(dried_weight(W(7, 2), ware, drying, many), Fraction(7, 2))

    def test_by_no_turn(self):
        for ware in ["ale", "gin", "rum", "tea", "zed"]:
            self.is_weight(dried_weight(W(7, 2), ware, DRYING, 0), Fraction(7, 2))

    def test_of_nought(self):
        for ware in ["ale", "rum", "zed"]:
            for many in [0, 1, 40]:
                self.is_weight(dried_weight(W(0), ware, DRYING, many), Fraction(0))

    def test_one_turn_where_many_is_left_out(self):
        self.is_weight(dried_weight(W(7, 2), "ale", DRYING), Fraction(63, 20))
        self.is_weight(dried_weight(W(7, 2), "zed", DRYING), Fraction(7, 2))

    def test_in_one_step_and_in_several(self):
        for ware in ["ale", "gin", "rum", "tea", "zed"]:
            weight = W(10 ** 12 - 1, 7)
            for _ in range(40):
                weight = dried_weight(weight, ware, DRYING)
            self.assertEqual(dried_weight(W(10 ** 12 - 1, 7), ware, DRYING, 40), weight)
            halves = dried_weight(dried_weight(W(10 ** 12 - 1, 7), ware, DRYING, 13), ware, DRYING, 27)
            self.assertEqual(halves, weight)

    def test_great_weights(self):
        great = great_weight()
        due = Fraction(great.top, great.bottom) * Fraction(9, 10) ** 40
        self.is_weight(dried_weight(great, "ale", DRYING, 40), due)

    def test_what_is_handed_in_stays(self):
        weight = W(7, 2)
        dried_weight(weight, "ale", DRYING, 2)
        self.is_weight(weight, Fraction(7, 2))

    def test_by_name_and_by_place(self):
        due = Fraction(7, 2) * Fraction(81, 100)
        self.is_weight(dried_weight(weight=W(7, 2), ware="ale", drying=DRYING, many=2), due)
        self.is_weight(dried_weight(many=2, drying=DRYING, ware="ale", weight=W(7, 2)), due)
        self.is_weight(dried_weight(W(7, 2), "ale", DRYING, many=2), due)
        self.is_weight(dried_weight(W(7, 2), "ale", drying=(ALE,)), Fraction(63, 20))


class TestDried(DryingCase):
    CASK = Cask("c1f", 30, (("ale", W(7, 2)), ("gin", W(5)), ("tea", W(3)), ("zed", W(1, 3))))

    def dues(self, many):
        return [("ale", Fraction(7, 2) * Fraction(9, 10) ** many), ("gin", Fraction(5)),
                ("tea", Fraction(3, 2 ** many)), ("zed", Fraction(1, 3))]

    def test_by_turns(self):
        for many in [0, 1, 2, 3, 40]:
            self.is_dried(dried(self.CASK, DRYING, many), "c1f", 30, self.dues(many))

    def test_one_turn_where_many_is_left_out(self):
        self.is_dried(dried(self.CASK, DRYING), "c1f", 30, self.dues(1))

    def test_without_a_drying(self):
        for many in [0, 1, 40]:
            self.is_dried(dried(self.CASK, (), many), "c1f", 30, self.dues(0))
            self.is_dried(dried(self.CASK, (RUM,), many), "c1f", 30, self.dues(0))

    def test_in_one_step_and_in_several(self):
        cask = self.CASK
        for many in range(1, 41):
            cask = dried(cask, DRYING)
            self.is_dried(cask, "c1f", 30, self.dues(many))
            self.assertEqual(dried(self.CASK, DRYING, many), cask)
        self.assertEqual(dried(dried(self.CASK, DRYING, 17), DRYING, 23), cask)

    def test_without_parts(self):
        self.is_dried(dried(Cask("c0", 4), DRYING, 40), "c0", 4, [])

    def test_a_part_never_dries_to_nought(self):
        cask = dried(Cask("c0", 4, (("rum", W(1, 10 ** 12)),)), DRYING, 40)
        self.is_dried(cask, "c0", 4, [("rum", Fraction(1, 10 ** 12 * 100 ** 40))])

    def test_what_is_handed_in_stays(self):
        cask, drying = copy.deepcopy(self.CASK), copy.deepcopy(DRYING)
        dried(cask, drying, 3)
        self.assertEqual((cask, drying), (self.CASK, DRYING))

    def test_by_name_and_by_place(self):
        self.is_dried(dried(cask=self.CASK, drying=DRYING, many=2), "c1f", 30, self.dues(2))
        self.is_dried(dried(many=2, drying=DRYING, cask=self.CASK), "c1f", 30, self.dues(2))
        self.is_dried(dried(self.CASK, DRYING, many=2), "c1f", 30, self.dues(2))
        self.is_dried(dried(self.CASK, drying=DRYING), "c1f", 30, self.dues(1))


if __name__ == "__main__":
    unittest.main()
