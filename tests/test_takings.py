"""Promise 11: takings, and whether something is any taking."""

import copy
import itertools
import unittest

from casknotes.casks import Cask
from casknotes.errors import Short
from casknotes.takings import taking, taking_holds
from casknotes.weights import Weight, total
from things import FORTY_NINES, ODD_TEXTS, OTHER_KINDS, great_weight, nested, spoiled

W = Weight
# By age; together 17/2 of ale.
CASKS = (
    Cask("c9", 0, (("ale", W(5, 2)), ("gin", W(9)))),
    Cask("ca", 0, (("ale", W(1, 2)),)),
    Cask("c1", 4, (("gin", W(1)),)),
    Cask("c2", 4),
    Cask("c10", 4, (("ale", W(4)), ("rum", W(10 ** 12)))),
    Cask("c0", 90, (("ale", W(3, 2)),)),
)


class TestTaking(unittest.TestCase):
    def is_told(self, casks, ware, grains, due):
        """Just these rows are told, of their own classes at any depth."""
        with self.subTest(ware=ware, grains=repr(grains)[:40]):
            told = taking(casks, ware, grains)
            self.assertIs(told.__class__, tuple)
            self.assertEqual(told, due)
            for row in told:
                self.assertEqual([row.__class__] + [field.__class__ for field in row], [tuple, str, Weight])

    def short(self, casks, ware, grains, lacks):
        with self.subTest(ware=ware, grains=repr(grains)[:40]):
            with self.assertRaises(Short) as caught:
                taking(casks, ware, grains)
            self.assertIs(caught.exception.__class__, Short)
            self.assertIs(caught.exception.lacks.__class__, Weight)
            self.assertEqual(caught.exception.lacks, lacks)

    def test_the_eldest_first_of_the_last_one_the_rest(self):
        dues = {
            1: (("c9", W(1)),), 2: (("c9", W(2)),), 3: (("c9", W(5, 2)), ("ca", W(1, 2))),
            4: (("c9", W(5, 2)), ("ca", W(1, 2)), ("c10", W(1))), 6: (("c9", W(5, 2)), ("ca", W(1, 2)), ("c10", W(3))),
            7: (("c9", W(5, 2)), ("ca", W(1, 2)), ("c10", W(4))),
            8: (("c9", W(5, 2)), ("ca", W(1, 2)), ("c10", W(4)), ("c0", W(1))),
        }
        for grains, due in dues.items():
            self.is_told(CASKS, "ale", grains, due)

    def test_in_any_order_of_casks(self):
        for casks in itertools.permutations(CASKS):
            self.assertEqual(taking(casks, "ale", 8), taking(CASKS, "ale", 8))

    def test_since_alike_by_the_numbers_of_marks(self):
        casks = tuple([Cask(mark, 7, (("ale", W(1)),)) for mark in ["c100", "c10", "ca", "c9"]])
        self.is_told(casks, "ale", 3, (("c9", W(1)), ("ca", W(1)), ("c10", W(1))))

    def test_a_cask_without_the_ware(self):
        self.is_told(CASKS, "gin", 10, (("c9", W(9)), ("c1", W(1))))
        self.is_told(CASKS[1:4], "gin", 1, (("c1", W(1)),))
        self.is_told(CASKS, "rum", 10 ** 12, (("c10", W(10 ** 12)),))

    def test_just_as_many_as_stand(self):
        self.is_told(CASKS[:2], "ale", 3, (("c9", W(5, 2)), ("ca", W(1, 2))))
        self.is_told((CASKS[4],), "ale", 4, (("c10", W(4)),))

    def test_one_more(self):
        self.short(CASKS[:2], "ale", 4, W(1))
        self.short(CASKS, "ale", 9, W(1, 2))
        self.short(CASKS, "gin", 11, W(1))
        self.short(CASKS, "rum", 10 ** 12 + 1, W(1))
        self.short(CASKS, "ale", FORTY_NINES, W(2 * FORTY_NINES - 17, 2))

    def test_of_casks_that_have_none(self):
        self.short((), "ale", 1, W(1))
        self.short((), "ale", 7, W(7))
        self.short(CASKS, "tea", 3, W(3))
        self.short(CASKS, "al", 1, W(1))
        self.short((Cask("c2", 4),), "ale", 2, W(2))

    def test_great_weights_and_grains(self):
        great = great_weight()
        casks = (Cask("c0", 0, (("ale", great),)), Cask("c1", 0, (("ale", great),)))
        grains = great.whole_up()
        self.is_told(casks, "ale", grains, (("c0", great), ("c1", W(grains).less(great))))
        self.short(casks[:1], "ale", grains, W(grains).less(great))

    def test_it_holds(self):
        for grains in range(1, 9):
            self.assertIs(taking_holds(CASKS, "ale", grains, taking(CASKS, "ale", grains)), True)

    def test_what_is_handed_in_stays(self):
        casks = tuple(reversed(CASKS))
        ahead = copy.deepcopy(casks)
        taking(casks, "ale", 8)
        with self.assertRaises(Short):
            taking(casks, "ale", 9)
        self.assertEqual(casks, ahead)

    def test_by_name_and_by_place(self):
        due = taking(CASKS, "ale", 4)
        self.assertEqual(taking(casks=CASKS, ware="ale", grains=4), due)
        self.assertEqual(taking(grains=4, ware="ale", casks=CASKS), due)
        self.assertEqual(taking(CASKS, "ale", grains=4), due)


class TestTakingHolds(unittest.TestCase):
    def judged(self, thing, due, casks=CASKS, ware="ale", grains=4):
        with self.subTest(thing=repr(thing)[:80], ware=ware, grains=repr(grains)[:40]):
            self.assertIs(taking_holds(casks, ware, grains, thing), due)

    def test_any_taking_in_any_order(self):
        for rows in [(("c10", W(4)),), (("c9", W(5, 2)), ("ca", W(1, 2)), ("c10", W(1))), (("c9", W(1)), ("c10", W(3))),
                     (("c9", W(5, 2)), ("c0", W(3, 2))), (("ca", W(1, 2)), ("c10", W(2)), ("c0", W(3, 2))),
                     (("c9", W(1, 3)), ("ca", W(1, 3)), ("c10", W(3)), ("c0", W(1, 3)))]:
            for order in itertools.permutations(rows):
                self.judged(order, True)
                self.judged(order, False, grains=3)
                self.judged(order, False, grains=5)

    def test_in_any_order_of_casks(self):
        rows = (("c10", W(3)), ("c9", W(1)))
        for casks in itertools.permutations(CASKS):
            self.judged(rows, True, casks)

    def test_just_what_a_cask_has(self):
        self.judged((("c9", W(5, 2)), ("ca", W(1, 2))), True, grains=3)
        self.judged((("c9", W(2)), ("ca", W(1))), False, grains=3)
        self.judged((("c9", W(3)),), False, grains=3)
        self.judged((("ca", W(1)),), False, grains=1)
        self.judged((("c10", W(4)),), True, grains=4)
        self.judged((("c10", W(5)),), False, grains=5)

    def test_more_than_a_cask_has(self):
        self.judged((("ca", W(3, 2)), ("c9", W(5, 2))), False)
        self.judged((("c10", W(3)), ("ca", W(1))), False)
        little = W(1, 10 ** 12)
        self.judged((("c9", W(5, 2).plus(little)), ("c0", W(3, 2).less(little))), False)
        self.judged((("c9", W(5, 2).less(little)), ("c0", W(3, 2).plus(little))), False)
        self.judged((("c9", W(5, 2).less(little)), ("c0", W(3, 2).less(little))), False)

    def test_nought_is_not_taken(self):
        for mark in ["c9", "ca", "c1", "c2", "c0"]:
            self.judged((("c10", W(4)), (mark, W(0))), False)
            self.judged(((mark, W(0)), ("c10", W(4))), False)
        self.judged((), False)

    def test_a_cask_twice(self):
        self.judged((("c10", W(2)), ("c10", W(2))), False)
        self.judged((("c9", W(1)), ("c10", W(2)), ("c9", W(1))), False)

    def test_a_cask_that_is_not_there_or_without_the_ware(self):
        for mark in ["c1", "c2", "c3", "c", "c09", "C10", "c10 ", "", "ale"]:
            self.judged(((mark, W(4)),), False)
            self.judged((("c10", W(3)), (mark, W(1))), False)
        self.judged((("c10", W(4)),), False, CASKS[:4])
        self.judged((("c10", W(4)),), False, ())
        self.judged((("c9", W(9)),), True, ware="gin", grains=9)
        self.judged((("c9", W(4)),), False, ware="tea")

    def test_one_place_otherwise(self):
        right = (("c10", W(5, 2)), ("c9", W(1)), ("ca", W(1, 2)))
        self.judged(right, True)
        orders = list(itertools.permutations(right))
        for thing in spoiled(right):
            if thing not in orders:
                self.judged(thing, False)

    def test_fields_exchanged(self):
        self.judged((("c9", W(3)), ("c10", W(1))), False)
        self.judged(((W(4), "c10"),), False)
        self.judged((("c10",),), False)
        self.judged((("c10", W(4), W(4)),), False)
        self.judged(("c10", W(4)), False)
        self.judged([("c10", W(4))], False)
        self.judged((["c10", W(4)],), False)
        self.judged({"c10": W(4)}, False)
        self.judged((("c10", 4),), False)
        self.judged((("c10", "4"),), False)
        self.judged((("c10", (4, 1)),), False)
        self.judged((CASKS[4],), False)
        self.judged(((CASKS[4], W(4)),), False)

    def test_marks_of_other_kinds(self):
        for thing in OTHER_KINDS + ODD_TEXTS + [0, 10, FORTY_NINES]:
            self.judged(((thing, W(4)),), False)
            self.judged((("c9", W(1)), (thing, W(3))), False)
            self.judged((("c10", thing),), False)
            self.judged((("c9", W(1)), thing), False)

    def test_other_kinds(self):
        for thing in OTHER_KINDS + ODD_TEXTS + [0, 4, FORTY_NINES, CASKS, list(CASKS)]:
            self.judged(thing, False)

    def test_deep_ones(self):
        for kind in [tuple, list, dict]:
            for many in [1, 2, 27]:
                self.judged(nested((("c10", W(4)),), kind, many), False)
                self.judged((nested(("c10", W(4)), kind, many),), False)
                self.judged((("c10", nested(W(4), kind, many)),), False)
                self.judged(((nested("c10", kind, many), W(4)),), False)

    def test_many_rows(self):
        self.judged((("c10", W(1, 1000)),) * 2000, False)
        great = great_weight()
        self.judged(tuple([("c" + str(at), great) for at in range(100)]), False)

    def test_great_weights(self):
        great = great_weight()
        casks = (Cask("c0", 0, (("ale", great),)), Cask("c1", 0, (("ale", great),)))
        grains = great.whole_up()
        rest = W(grains).less(great)
        self.judged((("c1", great), ("c0", rest)), True, casks, grains=grains)
        self.judged((("c1", great), ("c0", rest)), False, casks, grains=grains + 1)
        self.judged((("c1", great.plus(W(1, 10 ** 12))), ("c0", rest)), False, casks, grains=grains)
        self.assertEqual(total((great, rest)), W(grains))

    def test_what_is_handed_in_stays(self):
        for thing in [[["c10", W(4)]], {"c10": [4]}, (["c10", [W(4)]],)]:
            casks, ahead = copy.deepcopy(CASKS), copy.deepcopy(thing)
            taking_holds(casks, "ale", 4, thing)
            self.assertEqual((casks, thing), (CASKS, ahead))

    def test_by_name_and_by_place(self):
        rows = (("c10", W(4)),)
        self.assertIs(taking_holds(casks=CASKS, ware="ale", grains=4, thing=rows), True)
        self.assertIs(taking_holds(thing=rows, grains=4, ware="ale", casks=CASKS), True)
        self.assertIs(taking_holds(CASKS, "ale", 4, thing=None), False)


if __name__ == "__main__":
    unittest.main()
