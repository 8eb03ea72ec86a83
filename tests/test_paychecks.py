"""Promise 21: whether something is such (chosen, paper), of anything."""

import copy
import itertools
import random
import unittest

from casknotes.paychecks import few_holds
from casknotes.paying import few_notes
from casknotes.weights import Weight
from purses import PURSES, choices, closed, dues, is_few, least_paper, pair_of
from things import FORTY_NINES, ODD_TEXTS, OTHER_KINDS, nested, spoiled


class TestFewHolds(unittest.TestCase):
    def judged(self, grains, due, thing, holds):
        with self.subTest(grains=grains, due=due, thing=repr(thing)[:120]):
            self.assertIs(few_holds(grains, due, thing), holds)

    def test_what_is_told_holds(self):
        for grains in PURSES:
            for due in dues(grains)[::3]:
                told = few_notes(grains, due)
                self.judged(grains, due, told, told is not None)

    def test_written_by_hand(self):
        paper = (((0, 0),), ((0, 0), (3, 1)), ((0, 0), (3, 1), (5, 1), (8, 2)))
        for due, right in [(1, (0,)), (3, (0,)), (4, (1,)), (5, (1,)), (6, (0, 1)), (8, (0, 1)), (9, None)]:
            for chosen in choices((3, 5)):
                self.judged((3, 5), due, (chosen, paper), chosen == right)

    def test_any_choice_that_is_as_good(self):
        for grains, due in [((5, 5, 5), 6), ((6, 10, 15, 6, 10, 15), 21), ((4, 3, 2, 1), 5), ((1,) * 8, 4),
                            ((10 ** 12,) * 8, 10 ** 12 * 3 + 1), ((3, 3, 5, 5, 8, 8, 13, 13), 16)]:
            paper = least_paper(grains)
            best = pair_of(grains, few_notes(grains, due)[0])
            good = [chosen for chosen in choices(grains) if pair_of(grains, chosen) == best]
            self.assertGreater(len(good), 1)
            for chosen in choices(grains):
                self.judged(grains, due, (chosen, paper), chosen in good)

    def test_each_choice_of_each_purse(self):
        for grains in PURSES[:14]:
            paper = least_paper(grains)
            for due in dues(grains)[::5]:
                for chosen in choices(grains):
                    self.judged(grains, due, (chosen, paper), is_few(grains, due, (chosen, paper)))

    def test_numbers_that_fall_or_stand_twice(self):
        paper = least_paper((5, 5, 5))
        for chosen, holds in [((0, 1), True), ((1, 0), False), ((0, 0), False), ((1, 1), False), ((0, 0, 1), False),
                              ((-1, 0), False), ((-2, -1), False), ((1, 3), False), ((0, 1, 2), False), ((), False)]:
            self.judged((5, 5, 5), 6, (chosen, paper), holds)

    def test_more_pairs_than_are_needed(self):
        grains = (3, 5)
        chosen = (0, 1)
        for more in [(0, 1), (0, 7), (2, 0), (2, 1), (5, 0), (8, 3), (9, 0), (FORTY_NINES, 0), (FORTY_NINES,) * 2]:
            for at in range(3):
                rows = [set(row) for row in least_paper(grains)]
                rows[at] |= {more}
                paper = closed([tuple(row) for row in rows], grains)
                # Such a pair in the last row may be less than what is chosen comes to.
                over = [pair for pair in paper[-1] if pair[0] >= 6 and pair < (8, 2)]
                self.judged(grains, 6, (chosen, paper), over == [])
                self.assertEqual(is_few(grains, 6, (chosen, paper)), over == [])

    def test_more_that_are_no_pairs(self):
        grains, chosen, paper = (3, 5), (0, 1), least_paper((3, 5))
        self.judged(grains, 6, (chosen, paper), True)
        for more in [(8, 2, 0), (9,), (9, 9, 9), (8, 3, True), (9, None), (9, -1), (9, True), (9, "9"), [9, 9], 9, None, ()]:
            self.judged(grains, 6, (chosen, paper[:2] + (paper[2] + (more,),)), False)
        self.judged(grains, 6, (chosen, paper[:2] + (paper[2] + ((9, 9),),)), True)

    def test_rows_that_are_not_closed(self):
        grains = (3, 5, 8)
        chosen, paper = (0, 2), least_paper((3, 5, 8))
        self.judged(grains, 9, (chosen, paper), True)
        for at, more in itertools.product(range(3), [(1, 0), (2, 5), (100, 1), (200, 200)]):
            row = tuple(sorted(set(paper[at]) | {more}))
            self.judged(grains, 9, (chosen, paper[:at] + (row,) + paper[at + 1:]), False)

    def test_a_pair_left_out(self):
        for grains in PURSES[:12]:
            for due in [1, sum(grains) // 2 + 1, sum(grains)]:
                chosen, paper = few_notes(grains, due)
                for at, row in enumerate(paper):
                    for gone in row:
                        without = tuple([pair for pair in row if pair != gone])
                        self.judged(grains, due, (chosen, paper[:at] + (without,) + paper[at + 1:]), False)

    def test_rows_left_out_twice_exchanged(self):
        grains, due = (3, 5, 8), 9
        chosen, paper = few_notes(grains, due)
        for at in range(4):
            self.judged(grains, due, (chosen, paper[:at] + paper[at + 1:]), False)
            self.judged(grains, due, (chosen, paper[:at] + (paper[at],) + paper[at:]), False)
            for other in range(at):
                rows = list(paper)
                rows[at], rows[other] = rows[other], rows[at]
                self.judged(grains, due, (chosen, tuple(rows)), False)
        for rows in [(), paper + (paper[-1],), (paper[-1],) * 4, paper[::-1]]:
            self.judged(grains, due, (chosen, rows), False)

    def test_pairs_twice_exchanged(self):
        grains, due = (3, 5), 6
        chosen, paper = few_notes(grains, due)
        for at, row in enumerate(paper):
            for place, pair in enumerate(row):
                for rest in [row[:place] + (pair, pair) + row[place + 1:], row + (pair,), (pair,) + row]:
                    self.judged(grains, due, (chosen, paper[:at] + (rest,) + paper[at + 1:]), False)
            if len(row) > 1:
                self.judged(grains, due, (chosen, paper[:at] + (row[::-1],) + paper[at + 1:]), False)

    def test_otherwise_in_one_place(self):
        for grains, due in [((1,), 1), ((3, 5), 6), ((1, 1), 1), ((2, 1), 2)]:
            told = few_notes(grains, due)
            for thing in spoiled(told):
                self.judged(grains, due, thing, is_few(grains, due, thing))

    def test_truths_are_no_numbers(self):
        paper = (((0, 0),), ((0, 0), (1, 1)))
        self.judged((1,), 1, ((0,), paper), True)
        for thing in [((False,), paper), ((0,), (((False, 0),), ((0, 0), (1, 1)))), ((0,), (((0, False),), paper[1])),
                      ((0,), (((0, 0),), ((0, 0), (True, 1)))), ((0,), (((0, 0),), ((0, 0), (1, True)))),
                      ((0,), (((0, 0),), ((0, 0), (1, 1), (True, 2))))]:
            self.judged((1,), 1, thing, False)
        self.judged((1, 1), 2, ((0, True), least_paper((1, 1))), False)
        self.judged((1, 1), 2, ((0, 1), least_paper((1, 1))), True)

    def test_one_more_one_less_below_nought(self):
        grains, due = (3, 5), 6
        chosen, paper = few_notes(grains, due)
        for at, row in enumerate(paper):
            for place, (paid, many) in enumerate(row):
                for pair in [(paid + 1, many), (paid - 1, many), (paid, many + 1), (paid, many - 1), (-paid - 1, many),
                             (paid, -many - 1)]:
                    changed = tuple(sorted(row[:place] + (pair,) + row[place + 1:]))
                    self.judged(grains, due, (chosen, paper[:at] + (changed,) + paper[at + 1:]), False)
                for pair in [(-1, 0), (0, -1), (-1, -1), (-FORTY_NINES, 0)]:
                    if pair < row[0]:
                        self.judged(grains, due, (chosen, paper[:at] + ((pair,) + row,) + paper[at + 1:]), False)

    def test_lists_for_tuples(self):
        grains, due = (3, 5), 6
        chosen, paper = few_notes(grains, due)
        for thing in [[chosen, paper], (list(chosen), paper), (chosen, list(paper)),
                      (chosen, tuple([list(row) for row in paper])),
                      (chosen, tuple([tuple([list(pair) for pair in row]) for row in paper])),
                      (chosen, {0: 0}), ({0: 0, 1: 1}, paper), (chosen, tuple([dict(row) for row in paper]))]:
            self.judged(grains, due, thing, False)

    def test_other_kinds(self):
        told = few_notes((3, 5), 6)
        for thing in OTHER_KINDS + ODD_TEXTS + [0, 1, 8, FORTY_NINES]:
            for other in [thing, (thing,), (thing, thing), (told[0], thing), (thing, told[1]), told + (thing,),
                          (told[0], (thing,)), (told[0], (thing,) * 3), (told[0], told[1][:2] + (thing,)),
                          (told[0], told[1][:2] + ((thing,),)), (told[0], told[1][:2] + ((thing, thing),)),
                          (told[0], told[1][:2] + (((thing, 0),),)), ((thing,), told[1]), ((0, thing), told[1])]:
                self.judged((3, 5), 6, other, is_few((3, 5), 6, other))

    def test_deep_ones(self):
        told = few_notes((3, 5), 6)
        for kind in [tuple, list, dict]:
            for many in [1, 2, 25]:
                for thing in [nested(told, kind, many), (nested(told[0], kind, many), told[1]),
                              (told[0], nested(told[1], kind, many)),
                              (told[0], told[1][:2] + (nested(told[1][2], kind, many),)),
                              (told[0], told[1][:2] + (told[1][2][:3] + (nested((8, 2), kind, many),),)),
                              (told[0], told[1][:2] + (told[1][2][:3] + ((nested(8, kind, many), 2),),))]:
                    self.judged((3, 5), 6, thing, False)

    def test_weights_are_no_numbers(self):
        self.judged((1,), 1, ((0,), (((0, 0),), ((0, 0), (Weight(1), 1)))), False)
        self.judged((1,), 1, ((Weight(0),), (((0, 0),), ((0, 0), (1, 1)))), False)

    def test_great_papers(self):
        grains = (1, 2, 4, 8, 16, 32, 64, 128)
        rows = tuple([tuple([(paid, 9) for paid in range(256, 456)])] + [()] * 8)
        paper = closed(rows, grains)
        self.assertGreater(sum([len(row) for row in paper]), 2000)
        self.judged(grains, 77, ((0, 2, 3, 6), paper), True)
        self.judged(grains, 77, ((0, 2, 3, 6), paper[:-1] + (paper[-1][:-1],)), False)
        self.judged(grains, 77, ((0, 1, 2, 3, 6), paper), False)

    def test_where_all_are_less_together(self):
        for grains in PURSES:
            paper = least_paper(grains)
            for due in [sum(grains) + 1, sum(grains) * 2]:
                for thing in [None, (), (tuple(range(len(grains))), paper), ((), paper), (None, paper), (paper,),
                              few_notes(grains, 1), few_notes(grains, sum(grains)), False, ((), ())]:
                    self.judged(grains, due, thing, False)

    def test_of_other_grains_or_of_something_else_due(self):
        told = few_notes((3, 5), 6)
        for grains, due in [((3, 6), 6), ((5, 3), 6), ((3,), 3), ((3, 5, 1), 6), ((3, 5), 9), ((3, 5), 5), ((3, 5), 1)]:
            self.judged(grains, due, told, False)
        for due in [7, 8]:
            self.judged((3, 5), due, told, True)

    def test_by_chance_held_against_the_document(self):
        chance = random.Random(21)
        seen = {True: 0, False: 0}
        for _ in range(4000):
            grains = tuple([chance.randint(1, 3) for _ in range(chance.randint(1, 3))])
            due = chance.randint(1, sum(grains) + 1)
            rows = [set(row) for row in least_paper(grains)]
            for _ in range(chance.randint(0, 2)):
                rows[chance.randrange(len(rows))] ^= {(chance.randint(0, 6), chance.randint(0, 3))}
            paper = tuple([tuple(sorted(row)) for row in rows])
            if chance.random() < 0.7:
                paper = closed(paper, grains)
            thing = (chance.choice(choices(grains)), paper)
            holds = is_few(grains, due, thing)
            seen[holds] += 1
            self.judged(grains, due, thing, holds)
        self.assertGreater(min(seen.values()), 300)

    def test_what_is_handed_in_stays(self):
        for thing in [few_notes((3, 5), 6), [[0, 1], [[(0, 0)]]], ([0], {0: [1]})]:
            ahead = copy.deepcopy(thing)
            few_holds((3, 5), 6, thing)
            self.assertEqual(thing, ahead)

    def test_by_name_and_by_place(self):
        told = few_notes((3, 5), 6)
        self.assertIs(few_holds(grains=(3, 5), due=6, thing=told), True)
        self.assertIs(few_holds(thing=told, due=6, grains=(3, 5)), True)
        self.assertIs(few_holds((3, 5), 6, thing=()), False)


if __name__ == "__main__":
    unittest.main()
