"""Promise 10: whether something is the sums of notes and a stock, of anything."""

import copy
import itertools
import unittest

from casknotes.notes import Note
from casknotes.sumchecks import sums_holds
from casknotes.sums import sums_of
from casknotes.weights import Weight
from things import FORTY_NINES, ODD_TEXTS, OTHER_KINDS, great_weight, nested, spoiled

W = Weight
NOTES = (Note("bo", "ale", 3, 0), Note("ann", "ale", 1, 30), Note("cy", "ale", 5, 30))
STOCKS = [W(0), W(1), W(3), W(7, 2), W(4), W(9), W(10 ** 12), great_weight()]


class TestSumsHolds(unittest.TestCase):
    def judged(self, notes, stock, thing, due):
        with self.subTest(notes=len(notes), stock=repr(stock)[:40], thing=repr(thing)[:80]):
            self.assertIs(sums_holds(notes, stock, thing), due)

    def test_what_is_told_holds(self):
        for many in range(4):
            for notes in itertools.permutations(NOTES, many):
                for stock in STOCKS:
                    self.judged(notes, stock, sums_of(notes, stock), True)

    def test_who_ever_wrote_it(self):
        self.judged(NOTES, W(4), (("bo", 3, True), ("ann", 4, True), ("cy", 9, False)), True)
        self.judged((NOTES[1],), W(1, 2), (("ann", 1, False),), True)
        self.judged((), W(4), (), True)

    def test_one_place_otherwise(self):
        for notes in [(), NOTES[:1], NOTES[1:2], NOTES]:
            for stock in [W(0), W(3), W(4)]:
                for thing in spoiled(sums_of(notes, stock)):
                    self.judged(notes, stock, thing, False)

    def test_truths_are_no_numbers(self):
        notes = (Note("ann", "ale", 1),)
        self.judged(notes, W(1), (("ann", 1, True),), True)
        for thing in [(("ann", True, True),), (("ann", 1, 1),), (("ann", True, 1),), (("ann", W(1), True),)]:
            self.judged(notes, W(1), thing, False)
        self.judged(notes, W(0), (("ann", 1, 0),), False)
        self.judged(notes, W(0), (("ann", 1, False),), True)
        self.judged(notes, W(0), (("ann", 1, None),), False)

    def test_in_another_order(self):
        rows = sums_of(NOTES, W(4))
        for order in itertools.permutations(rows):
            self.judged(NOTES, W(4), order, order == rows)

    def test_of_another_stock_or_of_other_notes(self):
        self.judged(NOTES, W(4), sums_of(NOTES, W(3)), False)
        self.judged(NOTES, W(4), sums_of(NOTES[:2], W(4)), False)
        self.judged(NOTES[:2], W(4), sums_of(NOTES, W(4)), False)

    def test_other_kinds(self):
        for thing in OTHER_KINDS + ODD_TEXTS + [0, 1, FORTY_NINES, NOTES, list(NOTES)]:
            self.judged(NOTES, W(4), thing, False)
            self.judged((), W(4), thing, thing == () and isinstance(thing, tuple))

    def test_deep_ones(self):
        rows = sums_of(NOTES, W(4))
        for kind in [tuple, list, dict]:
            for many in [1, 2, 27]:
                self.judged(NOTES, W(4), nested(rows, kind, many), False)
                self.judged(NOTES, W(4), rows[:2] + (nested(rows[2], kind, many),), False)
                self.judged(NOTES, W(4), rows[:2] + (("cy", nested(9, kind, many), False),), False)

    def test_great_ones(self):
        grains = great_weight().top
        notes = (Note("ann", "ale", grains), Note("bo", "ale", 1))
        # As Python writes no such numbers, they are judged without a message.
        self.assertIs(sums_holds(notes, W(grains), (("ann", grains, True), ("bo", grains + 1, False))), True)
        self.assertIs(sums_holds(notes, W(grains), (("ann", grains, True), ("bo", grains, False))), False)

    def test_what_is_handed_in_stays(self):
        for thing in [[["bo", 3, True]], {"bo": [3]}, (["bo", 3, True],)]:
            notes, ahead = copy.deepcopy(NOTES), copy.deepcopy(thing)
            sums_holds(notes, W(4), thing)
            self.assertEqual((notes, thing), (NOTES, ahead))

    def test_by_name_and_by_place(self):
        rows = sums_of(NOTES, W(4))
        self.assertIs(sums_holds(notes=NOTES, stock=W(4), thing=rows), True)
        self.assertIs(sums_holds(thing=rows, stock=W(4), notes=NOTES), True)
        self.assertIs(sums_holds(NOTES, W(4), thing=()), False)


if __name__ == "__main__":
    unittest.main()
