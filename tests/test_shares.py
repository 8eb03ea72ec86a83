"""Promise 12: the shares of a loss, and whether something is just these."""

import copy
import itertools
import unittest
from fractions import Fraction

from casknotes.notes import Note
from casknotes.shares import shares_holds, shares_of
from casknotes.weights import Weight, total
from things import FORTY_NINES, ODD_TEXTS, OTHER_KINDS, great_weight, nested, spoiled

W = Weight
# By age, together 9 grains.
NOTES = (Note("bo", "ale", 3, 0), Note("ann", "ale", 1, 30), Note("cy", "ale", 5, 30))
LOSSES = [W(1, 3), W(1), W(7, 2), W(9), W(10), W(10 ** 12, 7)]


def worth(weight):
    return Fraction(weight.top, weight.bottom)


class TestSharesOf(unittest.TestCase):
    def is_told(self, loss, stock, notes, due):
        """Just these rows are told, of their own classes at any depth."""
        with self.subTest(loss=repr(loss)[:40], stock=repr(stock)[:40], notes=len(notes)):
            told = shares_of(loss, stock, notes)
            self.assertIs(told.__class__, tuple)
            self.assertEqual(told, due)
            for row in told:
                self.assertIs(row.__class__, tuple)
                self.assertIn(row[0].__class__, [str, None.__class__])
                self.assertIs(row[1].__class__, Weight)

    def test_notes_fewer_than_the_stock(self):
        self.is_told(W(6), W(12), NOTES, (("bo", W(3, 2)), ("ann", W(1, 2)), ("cy", W(5, 2)), (None, W(3, 2))))
        self.is_told(W(12), W(12), NOTES, (("bo", W(3)), ("ann", W(1)), ("cy", W(5)), (None, W(3))))
        self.is_told(W(1), W(19, 2), NOTES, (("bo", W(6, 19)), ("ann", W(2, 19)), ("cy", W(10, 19)), (None, W(1, 19))))

    def test_notes_more_than_the_stock(self):
        self.is_told(W(6), W(6), NOTES, (("bo", W(2)), ("ann", W(2, 3)), ("cy", W(10, 3))))
        self.is_told(W(9, 2), W(17, 2), NOTES, (("bo", W(3, 2)), ("ann", W(1, 2)), ("cy", W(5, 2))))

    def test_notes_just_the_stock(self):
        self.is_told(W(9), W(9), NOTES, (("bo", W(3)), ("ann", W(1)), ("cy", W(5))))
        self.is_told(W(1), W(9), NOTES, (("bo", W(1, 3)), ("ann", W(1, 9)), ("cy", W(5, 9))))

    def test_a_loss_of_nought(self):
        for stock in [W(0), W(1, 2), W(9), W(12)]:
            for notes in [(), NOTES[:1], NOTES]:
                self.is_told(W(0), stock, notes, ())

    def test_without_notes(self):
        self.is_told(W(7, 2), W(7, 2), (), ((None, W(7, 2)),))
        self.is_told(W(1, 3), W(10 ** 12), (), ((None, W(1, 3)),))

    def test_in_any_order(self):
        for notes in itertools.permutations(NOTES):
            self.assertEqual(shares_of(W(6), W(12), notes), shares_of(W(6), W(12), NOTES))
            self.assertEqual([name for name, _ in shares_of(W(6), W(12), notes)], ["bo", "ann", "cy", None])

    def test_as_they_are_reckoned_and_they_come_to_the_loss(self):
        for many in range(4):
            notes = NOTES[:many]
            grains = sum([note.grains for note in notes])
            for loss in LOSSES:
                for more in [W(0), W(1, 7), W(2), W(30), W(10 ** 12)]:
                    stock = loss.plus(more)
                    whole = max(worth(stock), Fraction(grains))
                    told = shares_of(loss, stock, notes)
                    due = [(note.name, worth(loss) * note.grains / whole) for note in notes]
                    if whole > grains:
                        due.append((None, worth(loss) * (whole - grains) / whole))
                    self.assertEqual([(name, worth(weight)) for name, weight in told], due)
                    self.assertEqual(total(tuple([weight for _, weight in told])), loss)

    def test_great_ones(self):
        great = great_weight()
        grains = great.whole_up()
        notes = (Note("ann", "ale", grains), Note("bo", "ale", grains))
        self.is_told(great, great, notes, (("ann", great.times(1, 2)), ("bo", great.times(1, 2))))
        told = shares_of(W(1), great, (Note("ann", "ale", 1),))
        self.assertEqual(told[0], ("ann", W(great.bottom, great.top)))
        self.assertEqual(total(tuple([weight for _, weight in told])), W(1))

    def test_what_is_handed_in_stays(self):
        notes, loss, stock = tuple(reversed(NOTES)), W(6), W(12)
        ahead = copy.deepcopy(notes)
        shares_of(loss, stock, notes)
        self.assertEqual((notes, loss, stock), (ahead, W(6), W(12)))

    def test_by_name_and_by_place(self):
        due = shares_of(W(6), W(12), NOTES)
        self.assertEqual(shares_of(loss=W(6), stock=W(12), notes=NOTES), due)
        self.assertEqual(shares_of(notes=NOTES, stock=W(12), loss=W(6)), due)
        self.assertEqual(shares_of(W(6), W(12), notes=NOTES), due)


class TestSharesHolds(unittest.TestCase):
    def judged(self, loss, stock, notes, thing, due):
        with self.subTest(loss=repr(loss)[:40], stock=repr(stock)[:40], notes=len(notes), thing=repr(thing)[:80]):
            self.assertIs(shares_holds(loss, stock, notes, thing), due)

    def test_what_is_told_holds(self):
        for many in range(4):
            for notes in itertools.permutations(NOTES, many):
                for loss in LOSSES + [W(0)]:
                    for stock in [loss, loss.plus(W(1, 7)), loss.plus(W(30))]:
                        self.judged(loss, stock, notes, shares_of(loss, stock, notes), True)

    def test_who_ever_wrote_it(self):
        self.judged(W(6), W(12), NOTES, (("bo", W(3, 2)), ("ann", W(1, 2)), ("cy", W(5, 2)), (None, W(3, 2))), True)
        self.judged(W(6), W(12), NOTES, (("bo", W(6, 4)), ("ann", W(2, 4)), ("cy", W(5, 2)), (None, W(9, 6))), True)
        self.judged(W(9), W(9), NOTES, (("bo", W(3)), ("ann", W(1)), ("cy", W(5))), True)
        self.judged(W(0), W(0), NOTES, (), True)

    def test_one_place_otherwise(self):
        for loss, stock, notes in [(W(6), W(12), NOTES), (W(9), W(9), NOTES[:2]), (W(1), W(1), NOTES[1:2]),
                                   (W(1, 2), W(1), ()), (W(0), W(1), NOTES)]:
            for thing in spoiled(shares_of(loss, stock, notes)):
                self.judged(loss, stock, notes, thing, False)

    def test_shares_of_nought_are_not_told(self):
        self.judged(W(9), W(9), NOTES, (("bo", W(3)), ("ann", W(1)), ("cy", W(5)), (None, W(0))), False)
        self.judged(W(0), W(9), NOTES, (("bo", W(0)), ("ann", W(0)), ("cy", W(0))), False)
        self.judged(W(0), W(9), (), ((None, W(0)),), False)

    def test_in_another_order(self):
        rows = shares_of(W(6), W(12), NOTES)
        for order in itertools.permutations(rows):
            self.judged(W(6), W(12), NOTES, order, order == rows)

    def test_they_come_to_the_loss_but_otherwise(self):
        little = W(1, 10 ** 12)
        self.judged(W(9), W(9), NOTES, (("bo", W(3).plus(little)), ("ann", W(1).less(little)), ("cy", W(5))), False)
        self.judged(W(9), W(9), NOTES, (("bo", W(4)), ("cy", W(5))), False)
        self.judged(W(9), W(9), NOTES, ((None, W(9)),), False)

    def test_truths_and_numbers(self):
        notes = (Note("ann", "ale", 1),)
        self.judged(W(1), W(1), notes, (("ann", W(1)),), True)
        for thing in [(("ann", 1),), (("ann", True),), (("ann", "1"),), (("ann", (1, 1)),)]:
            self.judged(W(1), W(1), notes, thing, False)
        for thing in [((False, W(1)),), ((0, W(1)),), (("", W(1)),), (("none", W(1)),), (("None", W(1)),), (((), W(1)),)]:
            self.judged(W(1), W(1), (), thing, False)
        self.judged(W(1), W(1), (), ((None, W(1)),), True)

    def test_other_kinds(self):
        for thing in OTHER_KINDS + ODD_TEXTS + [0, 1, FORTY_NINES, NOTES]:
            self.judged(W(6), W(12), NOTES, thing, False)
            self.judged(W(0), W(12), NOTES, thing, thing == () and isinstance(thing, tuple))

    def test_deep_ones(self):
        rows = shares_of(W(6), W(12), NOTES)
        for kind in [tuple, list, dict]:
            for many in [1, 2, 27]:
                self.judged(W(6), W(12), NOTES, nested(rows, kind, many), False)
                self.judged(W(6), W(12), NOTES, rows[:3] + (nested(rows[3], kind, many),), False)
                self.judged(W(6), W(12), NOTES, rows[:3] + ((None, nested(W(3, 2), kind, many)),), False)

    def test_what_is_handed_in_stays(self):
        for thing in [[["bo", W(3, 2)]], {"bo": [W(3, 2)]}, (["bo", [W(3, 2)]],)]:
            notes, ahead = copy.deepcopy(NOTES), copy.deepcopy(thing)
            shares_holds(W(6), W(12), notes, thing)
            self.assertEqual((notes, thing), (NOTES, ahead))

    def test_by_name_and_by_place(self):
        rows = shares_of(W(6), W(12), NOTES)
        self.assertIs(shares_holds(loss=W(6), stock=W(12), notes=NOTES, thing=rows), True)
        self.assertIs(shares_holds(thing=rows, notes=NOTES, stock=W(12), loss=W(6)), True)
        self.assertIs(shares_holds(W(6), W(12), NOTES, thing=()), False)


if __name__ == "__main__":
    unittest.main()
