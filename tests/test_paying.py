"""Promise 21: how to pay with few notes."""

import copy
import itertools
import unittest

from casknotes.paying import few_notes
from purses import PURSES, best_pair, choices, dues, is_few, is_paper, least_paper, pair_of
from storing import StoreCase
from things import FORTY_NINES


class TestFewNotes(StoreCase):
    def test_told_by_hand(self):
        self.is_just(few_notes((5,), 3), ((0,), (((0, 0),), ((0, 0), (5, 1)))))
        self.is_just(few_notes((5,), 5), ((0,), (((0, 0),), ((0, 0), (5, 1)))))
        self.is_just(few_notes((5,), 6), None)
        self.assertEqual(few_notes((3, 5, 8), 9)[0], (0, 2))
        self.assertEqual(few_notes((3, 5, 8), 8)[0], (2,))
        self.assertEqual(few_notes((3, 5, 8), 4)[0], (1,))
        self.assertEqual(few_notes((3, 5, 8), 12)[0], (1, 2))
        self.assertEqual(few_notes((3, 5, 8), 14)[0], (0, 1, 2))
        self.assertEqual(few_notes((1, 2, 4, 8, 16, 32), 21)[0], (0, 2, 4))

    def test_less_beyond_goes_ahead_of_fewer(self):
        self.assertEqual(few_notes((10, 1, 1, 1, 1), 4)[0], (1, 2, 3, 4))
        self.assertEqual(few_notes((10, 1, 1, 1, 1), 5)[0], (0,))
        self.assertEqual(few_notes((1, 1, 1, 3), 3)[0], (3,))
        self.assertEqual(few_notes((3, 1, 1, 1), 3)[0], (0,))

    def test_each_is_as_the_document_tells_it(self):
        for grains in PURSES:
            for due in dues(grains):
                with self.subTest(grains=grains, due=due):
                    told = few_notes(grains, due)
                    if sum(grains) < due:
                        self.assertIsNone(told)
                    else:
                        self.assertTrue(is_few(grains, due, told))
                        self.is_just(told, told)

    def test_held_against_all_choices_gone_through(self):
        for many in range(1, 4):
            for grains in itertools.product(range(1, 6), repeat=many):
                for due in range(1, sum(grains) + 2):
                    told = few_notes(grains, due)
                    if sum(grains) < due:
                        self.assertIsNone(told)
                        continue
                    chosen, paper = told
                    self.assertIn(chosen, choices(grains))
                    self.assertEqual(pair_of(grains, chosen), best_pair(grains, due))
                    self.assertTrue(is_paper(paper, grains))

    def test_its_paper_clause_by_clause(self):
        for grains in PURSES:
            chosen, paper = few_notes(grains, max(1, sum(grains) // 2))
            own = pair_of(grains, chosen)
            self.assertEqual(len(paper), len(grains) + 1)
            for row in paper:
                self.assertEqual(list(row), sorted(set(row)))
                self.assertTrue(all([number.__class__ is int and number >= 0 for pair in row for number in pair]))
            self.assertIn((0, 0), paper[0])
            for at, number in enumerate(grains):
                self.assertLessEqual(set(paper[at]), set(paper[at + 1]))
                self.assertLessEqual({(paid + number, many + 1) for paid, many in paper[at]}, set(paper[at + 1]))
            self.assertIn(own, paper[-1])
            self.assertEqual([pair for pair in paper[-1] if pair[0] >= max(1, sum(grains) // 2)][0], own)

    def test_nothing_is_left_out_of_the_paper(self):
        for grains in PURSES:
            _, paper = few_notes(grains, 1)
            for row, least in zip(paper, least_paper(grains)):
                self.assertLessEqual(set(least), set(row))

    def test_all_and_more_than_all(self):
        for grains in PURSES:
            self.assertEqual(few_notes(grains, sum(grains))[0], tuple(range(len(grains))))
            for due in [sum(grains) + 1, sum(grains) * 3, FORTY_NINES * 9]:
                self.assertIsNone(few_notes(grains, due))

    def test_several_as_good_as_each_other(self):
        for grains, due, many in [((5, 5, 5), 6, 2), ((6, 10, 15, 6, 10, 15), 21, 2), ((4, 3, 2, 1), 5, 2)]:
            chosen, _ = few_notes(grains, due)
            self.assertEqual(pair_of(grains, chosen), best_pair(grains, due))
            self.assertEqual(len(chosen), many)

    def test_asked_again(self):
        for grains in PURSES:
            ahead = copy.deepcopy(grains)
            self.assertEqual(few_notes(grains, 3), few_notes(copy.deepcopy(grains), 3))
            self.assertEqual(grains, ahead)

    def test_by_name_and_by_place(self):
        due = few_notes((3, 5, 8), 9)
        self.is_just(few_notes(grains=(3, 5, 8), due=9), due)
        self.is_just(few_notes(due=9, grains=(3, 5, 8)), due)
        self.is_just(few_notes((3, 5, 8), due=9), due)


if __name__ == "__main__":
    unittest.main()
