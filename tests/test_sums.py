"""Promise 10: the sums of notes of one ware, and which of them a stock bears."""

import copy
import itertools
import unittest

from casknotes.notes import Note
from casknotes.sums import sums_of
from casknotes.weights import Weight
from things import FORTY_NINES, great_weight

W = Weight
ANN = Note("ann", "ale", 12, 30)
BO = Note("bo", "ale", 3, 0)
CY = Note("cy", "ale", 5, 30)
DEE = Note("dee", "ale", 1, 31)
ALL = (BO, ANN, CY, DEE)


class TestSumsOf(unittest.TestCase):
    def is_told(self, notes, stock, due):
        """Just these rows are told, of their own classes at any depth."""
        with self.subTest(notes=repr(notes)[:60], stock=repr(stock)[:60]):
            told = sums_of(notes, stock)
            self.assertIs(told.__class__, tuple)
            self.assertEqual(told, due)
            for row in told:
                self.assertEqual([row.__class__] + [field.__class__ for field in row], [tuple, str, int, bool])

    def test_of_none(self):
        for stock in [W(0), W(1), W(7, 2), W(10 ** 12)]:
            self.is_told((), stock, ())

    def test_of_one(self):
        for stock in [W(12), W(25, 2), W(10 ** 12)]:
            self.is_told((ANN,), stock, (("ann", 12, True),))
        for stock in [W(0), W(11), W(23, 2), W(12 * 10 ** 12 - 1, 10 ** 12)]:
            self.is_told((ANN,), stock, (("ann", 12, False),))

    def test_of_many(self):
        for stock, borne in [(0, 0), (2, 0), (3, 1), (4, 1), (14, 1), (15, 2), (19, 2), (20, 3), (21, 4), (99, 4)]:
            due = [("bo", 3), ("ann", 15), ("cy", 20), ("dee", 21)]
            self.is_told(ALL, W(stock), tuple([row + (at < borne,) for at, row in enumerate(due)]))

    def test_in_any_order(self):
        due = (("bo", 3, True), ("ann", 15, True), ("cy", 20, False), ("dee", 21, False))
        for notes in itertools.permutations(ALL):
            self.is_told(notes, W(17), due)

    def test_a_stock_that_just_bears_a_note(self):
        self.is_told(ALL[:2], W(15), (("bo", 3, True), ("ann", 15, True)))
        self.is_told(ALL[:2], W(15 * 10 ** 12 - 1, 10 ** 12), (("bo", 3, True), ("ann", 15, False)))
        self.is_told(ALL[:2], W(15 * 10 ** 12 + 1, 10 ** 12), (("bo", 3, True), ("ann", 15, True)))

    def test_a_stock_that_is_no_whole_number(self):
        self.is_told((BO,), W(7, 2), (("bo", 3, True),))
        self.is_told((BO,), W(5, 2), (("bo", 3, False),))
        self.is_told((BO,), W(2999, 1000), (("bo", 3, False),))
        self.is_told((DEE,), W(1, 2), (("dee", 1, False),))

    def test_a_stock_of_nought(self):
        self.is_told(ALL, W(0), (("bo", 3, False), ("ann", 15, False), ("cy", 20, False), ("dee", 21, False)))

    def test_born_alike_by_names(self):
        notes = tuple([Note(name, "ale", 2, 7) for name in ["b", "ab", "aa", "a"]])
        self.is_told(notes, W(4), (("a", 2, True), ("aa", 4, True), ("ab", 6, False), ("b", 8, False)))

    def test_great_grains_and_stocks(self):
        notes = (Note("ann", "ale", FORTY_NINES), Note("bo", "ale", FORTY_NINES))
        self.is_told(notes, W(2 * FORTY_NINES), (("ann", FORTY_NINES, True), ("bo", 2 * FORTY_NINES, True)))
        self.is_told(notes, W(2 * FORTY_NINES - 1), (("ann", FORTY_NINES, True), ("bo", 2 * FORTY_NINES, False)))
        great = great_weight()
        grains = great.whole_up()
        notes = (Note("ann", "ale", grains - 1), Note("bo", "ale", 1))
        self.is_told(notes, great, (("ann", grains - 1, True), ("bo", grains, False)))

    def test_what_is_handed_in_stays(self):
        notes = tuple(reversed(ALL))
        ahead = copy.deepcopy(notes)
        stock = W(17, 2)
        sums_of(notes, stock)
        self.assertEqual((notes, stock), (ahead, W(17, 2)))

    def test_by_name_and_by_place(self):
        self.assertEqual(sums_of(notes=ALL, stock=W(17)), sums_of(ALL, W(17)))
        self.assertEqual(sums_of(stock=W(17), notes=ALL), sums_of(ALL, W(17)))
        self.assertEqual(sums_of(ALL, stock=W(17)), sums_of(ALL, W(17)))


if __name__ == "__main__":
    unittest.main()
