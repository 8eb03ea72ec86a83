"""Promise 26: findings, and whether they hold, of anything."""

import copy
import itertools
import unittest

from casknotes.booktexts import read_book, show_book
from casknotes.casks import Cask
from casknotes.errors import NoText
from casknotes.findings import finding_holds
from casknotes.notes import Note
from casknotes.paying import few_notes
from casknotes.shares import shares_of
from casknotes.sums import sums_of
from casknotes.takings import taking
from casknotes.weights import Weight, total
from booking import DRYING, TALE, book_of
from deeding import is_grains, is_name
from purses import PURSES, dues, is_few, least_paper
from storing import StoreCase, filled
from things import FORTY_NINES, ODD_TEXTS, OTHER_KINDS, great_weight, nested, spoiled

W = Weight
NOTES = (Note("bo", "ale", 3, 0), Note("ann", "ale", 1, 30), Note("cy", "ale", 5, 30))
CASKS = (Cask("c9", 0, (("ale", W(5, 2)), ("gin", W(9)))), Cask("ca", 0, (("ale", W(1, 2)),)), Cask("c2", 4),
         Cask("c10", 4, (("ale", W(4)),)))
TEXT = "drying ale 1/10\n0 cask c1 ale 20\n1 make ann ale 12\n1 make ann ale 1\n5 pay 1 bo ann\n30 burn c1 gin 1\n30 draw bo"
CAME = ((0, True, None), (1, True, None), (2, False, "Twice"), (3, True, Note("bo", "ale", 11, 1)), (4, False, "NoWare"),
        (5, True, (("c1", W(11)),)))


def same(thing, told):
    """Whether it is what is told, of just its classes at any depth."""
    if thing.__class__ is not told.__class__:
        return False
    if isinstance(told, tuple):
        return len(thing) == len(told) and all([same(one, other) for one, other in zip(thing, told)])
    return thing == told


def are_of(thing, kind, name):
    """Whether it is a tuple of such, their names unlike."""
    return (thing.__class__ is tuple and all([one.__class__ is kind for one in thing])
            and len({getattr(one, name) for one in thing}) == len(thing))


def are_notes(thing):
    return are_of(thing, Note, "name") and len({note.ware for note in thing}) < 2


def is_taking(casks, ware, grains, thing):
    """Whether it is any such taking, as 11 tells it."""
    if thing.__class__ is not tuple or not all([row.__class__ is tuple and len(row) == 2 for row in thing]):
        return False
    left = {cask.mark: cask.weight_of(ware) for cask in casks}
    for mark, weight in thing:
        if mark.__class__ is not str or mark not in left or weight.__class__ is not Weight or weight.is_nought():
            return False
        if left.pop(mark).is_below(weight):
            return False
    return total(tuple([weight for _, weight in thing])) == W(grains)


def is_so(thing):
    """Whether it is a finding that holds, as the document tells it."""
    if thing.__class__ is not tuple or not thing or thing[0].__class__ is not str:
        return False
    word, rest = thing[0], thing[1:]
    if word == "sums" and len(rest) == 3:
        return are_notes(rest[0]) and rest[1].__class__ is Weight and same(rest[2], sums_of(rest[0], rest[1]))
    if word == "taking" and len(rest) == 4:
        return are_of(rest[0], Cask, "mark") and is_name(rest[1]) and is_grains(rest[2]) and is_taking(*rest)
    if word == "shares" and len(rest) == 4:
        loss, stock, notes, shares = rest
        return (loss.__class__ is Weight and stock.__class__ is Weight and not stock.is_below(loss) and are_notes(notes)
                and same(shares, shares_of(loss, stock, notes)))
    if word == "few" and len(rest) == 4:
        grains, due = rest[:2]
        return (grains.__class__ is tuple and 1 <= len(grains) <= 8 and all([is_grains(one) for one in grains])
                and is_grains(due) and is_few(grains, due, rest[2:]))
    if word == "book" and len(rest) == 2:
        try:
            return same(rest[1], read_book(rest[0]).results())
        except NoText:
            return False
    return False


FINDINGS = [
    ("sums", NOTES, W(7, 2), (("bo", 3, True), ("ann", 4, False), ("cy", 9, False))), ("sums", (), W(1), ()),
    ("sums", (Note("ann", "ale", 1),), W(1), (("ann", 1, True),)), ("sums", (Note("ann", "rum", 1),), W(0), (("ann", 1, False),)),
    ("taking", CASKS, "ale", 4, (("c9", W(5, 2)), ("ca", W(1, 2)), ("c10", W(1)))),
    ("taking", CASKS, "gin", 9, (("c9", W(9)),)), ("taking", CASKS, "ale", 4, (("c10", W(4)),)),
    ("taking", CASKS[3:], "ale", 1, (("c10", W(1)),)),
    ("shares", W(6), W(12), NOTES, (("bo", W(3, 2)), ("ann", W(1, 2)), ("cy", W(5, 2)), (None, W(3, 2)))),
    ("shares", W(6), W(6), NOTES, (("bo", W(2)), ("ann", W(2, 3)), ("cy", W(10, 3)))), ("shares", W(0), W(0), (), ()),
    ("shares", W(1), W(1), (), ((None, W(1)),)), ("shares", W(0), W(7), NOTES[:1], ()),
    ("few", (3, 5), 6, (0, 1), (((0, 0),), ((0, 0), (3, 1)), ((0, 0), (3, 1), (5, 1), (8, 2)))),
    ("few", (1,), 1, (0,), (((0, 0),), ((0, 0), (1, 1)))),
    ("few", (2, 2), 1, (1,), (((0, 0),), ((0, 0), (2, 1)), ((0, 0), (2, 1), (4, 2)))),
    ("book", TEXT, CAME), ("book", "drying", ()), ("book", "drying\n0 draw ann", ((0, False, "NoNote"),)),
]


class FindingCase(StoreCase):
    def judged(self, thing, due):
        with self.subTest(thing=repr(thing)[:150]):
            self.assertIs(finding_holds(thing), due)


class TestHolding(FindingCase):
    def test_each_of_the_five(self):
        self.assertEqual({finding[0] for finding in FINDINGS}, {"sums", "taking", "shares", "few", "book"})
        for finding in FINDINGS:
            self.judged(finding, True)
            self.assertTrue(is_so(finding))

    def test_each_otherwise_in_one_place_at_any_depth(self):
        for finding in FINDINGS:
            seen = {True: 0, False: 0}
            for thing in spoiled(finding):
                due = is_so(thing)
                seen[due] += 1
                self.judged(thing, due)
            self.assertGreater(seen[False], 100)

    def test_what_is_told_holds(self):
        store = filled()
        casks = store.casks()
        for ware in ["ale", "gin", "rum", "tea"]:
            notes, stock = tuple([note for note in store.notes() if note.ware == ware]), store.stock(ware)
            self.judged(("sums", notes, stock, sums_of(notes, stock)), True)
            for loss in [W(0), stock.times(1, 3), stock]:
                self.judged(("shares", loss, stock, notes, shares_of(loss, stock, notes)), True)
            for grains in range(1, stock.top // stock.bottom + 1):
                self.judged(("taking", casks, ware, grains, taking(casks, ware, grains)), True)
                self.judged(("taking", casks, ware, grains, taking(casks[::-1], ware, grains)[::-1]), True)
        for grains in PURSES:
            for due in dues(grains)[::7]:
                told = few_notes(grains, due)
                self.judged(("few", grains, due) + (told or (None, None)), told is not None)
        for rows in [[], TALE, TALE[::-1]]:
            text = show_book(book_of(rows, DRYING))
            self.judged(("book", text, read_book(text).results()), True)

    def test_words(self):
        for finding in FINDINGS:
            for word in ["sums", "taking", "shares", "few", "book", "", "Sums", "sum", "takings", "books", "sums ", None, True,
                         0, ("sums",), ["sums"], W(1), {}]:
                self.judged((word,) + finding[1:], is_so((word,) + finding[1:]))
                self.judged((word,), False)
            self.judged(finding[0], False)
            self.judged(finding + (finding[-1],), False)
            self.judged(finding[:-1], False)

    def test_lists_for_tuples(self):
        for finding in FINDINGS:
            self.judged(list(finding), False)
            for at, part in enumerate(finding):
                if isinstance(part, tuple):
                    self.judged(finding[:at] + (list(part),) + finding[at + 1:], False)


class TestNotesAndCasks(FindingCase):
    def test_notes_twice(self):
        for other in [NOTES[1], Note("ann", "ale", 2, 7), Note("bo", "ale", 3, 30)]:
            notes = NOTES + (other,)
            self.judged(("sums", notes, W(5), sums_of(notes, W(5))), False)
            self.judged(("shares", W(5), W(50), notes, shares_of(W(5), W(50), notes)), False)

    def test_notes_of_unlike_wares(self):
        for other in [Note("dee", "rum", 2), Note("dee", "alf", 2, 7), Note("dee", "al", 3, 30)]:
            notes = (other,) + NOTES
            self.judged(("sums", notes, W(5), sums_of(notes, W(5))), False)
            self.judged(("shares", W(5), W(50), notes, shares_of(W(5), W(50), notes)), False)

    def test_notes_that_are_none(self):
        for thing in [list(NOTES), NOTES[0], None, (None,), NOTES + (None,), NOTES + (CASKS[0],), NOTES + ("dee",),
                      NOTES + (("dee", "ale", 2, 0),), {"bo": NOTES[0]}, "bo", 3, (NOTES,)]:
            self.judged(("sums", thing, W(0), ()), False)
            self.judged(("shares", W(0), W(5), thing, ()), False)

    def test_casks_with_a_mark_twice(self):
        for other in [CASKS[0], Cask("c9", 7), Cask("c2", 4, (("ale", W(1)),))]:
            casks = CASKS + (other,)
            self.judged(("taking", casks, "ale", 1, (("c10", W(1)),)), False)
            self.judged(("taking", CASKS, "ale", 1, (("c10", W(1)),)), True)

    def test_casks_that_are_none(self):
        for thing in [list(CASKS), CASKS[3], None, CASKS + (None,), CASKS + (NOTES[0],), CASKS + ("c3",), {"c10": CASKS[3]},
                      CASKS + (("c3", 0, ()),), (CASKS,), "c10"]:
            self.judged(("taking", thing, "ale", 1, (("c10", W(1)),)), False)
        self.judged(("taking", (), "ale", 1, ()), False)
        self.judged(("taking", (), "ale", 1, (("c10", W(1)),)), False)

    def test_wares_and_grains(self):
        for ware, due in [("ale", True), ("Ale", False), ("", False), ("aleale-", False), ("alealeale", False), (None, False),
                          ("gin", False), ("rum", False), (("ale",), False), (["ale"], False), (0, False), (W(1), False)]:
            self.judged(("taking", CASKS, ware, 1, (("c10", W(1)),)), due)
        for grains, due in [(1, True), (True, False), (2, False), (0, False), (-1, False), ("1", False), (W(1), False),
                            (None, False), ((1,), False)]:
            self.judged(("taking", CASKS, "ale", grains, (("c10", W(1)),)), due)
        for grains in [0, False, -1]:
            self.judged(("taking", CASKS, "ale", grains, ()), False)

    def test_weights_that_are_none(self):
        for thing in [None, 4, "4", (4, 1), True, "7/2", [], NOTES, CASKS[0]]:
            self.judged(("sums", NOTES[:1], thing, (("bo", 3, True),)), False)
            self.judged(("shares", thing, W(5), NOTES, ()), False)
            self.judged(("shares", W(0), thing, NOTES, ()), False)

    def test_a_loss_that_is_more_than_the_stock(self):
        for loss, stock in [(W(7), W(6)), (W(7, 2), W(3)), (W(1), W(0)), (W(10 ** 12), W(10 ** 12 - 1)),
                            (great_weight().times(2), great_weight())]:
            for notes in [(), NOTES[:1], NOTES]:
                self.assertIs(finding_holds(("shares", loss, loss, notes, shares_of(loss, loss, notes))), True)
                for shares in [(), shares_of(loss, loss, notes), shares_of(stock, stock, notes), ((None, loss),)]:
                    self.assertIs(finding_holds(("shares", loss, stock, notes, shares)), False)
        # Of the notes, where they are more than the stock, the shares are the same for any stock.
        shares = shares_of(W(8), W(8), NOTES)
        for stock, due in [(W(7), False), (W(15, 2), False), (W(8), True), (W(17, 2), True), (W(9), True), (W(10), False)]:
            self.judged(("shares", W(8), stock, NOTES, shares), due)


class TestFew(FindingCase):
    def test_none_and_nine_grains(self):
        self.judged(("few", (), 1, (), (((0, 0),),)), False)
        self.judged(("few", (), 1, None, None), False)
        for many in range(1, 12):
            grains = (1,) * many
            paper = tuple([tuple([(paid, paid) for paid in range(at + 1)]) for at in range(many + 1)])
            self.judged(("few", grains, 1, (0,), paper), many <= 8)
            self.judged(("few", grains, many, tuple(range(many)), paper), many <= 8)

    def test_what_is_no_grains(self):
        for grains, due in [((3, True), 4), ((3, 0), 3), ((3, -1), 2), ((3, "5"), 3), ([3, 5], 6), ((3, W(5)), 6), (3, 3),
                            ((3, None), 3), ("35", 3), ({3: 5}, 3), (((3,), 5), 3)]:
            for chosen in [(0,), (1,), (0, 1)]:
                self.judged(("few", grains, due, chosen, least_paper((3, 5))), False)
        for due in [0, -1, True, False, "6", None, W(6), (6,), 9]:
            self.judged(("few", (3, 5), due, (0, 1), least_paper((3, 5))), False)
        self.judged(("few", (1,), True, (0,), least_paper((1,))), False)
        self.judged(("few", (True,), 1, (0,), least_paper((1,))), False)

    def test_where_all_are_less_together(self):
        for chosen in [(), (0,), (0, 1), None]:
            self.judged(("few", (3, 5), 9, chosen, least_paper((3, 5))), False)

    def test_great_ones(self):
        grains = (FORTY_NINES, FORTY_NINES - 1, 1)
        self.judged(("few", grains, FORTY_NINES) + few_notes(grains, FORTY_NINES), True)
        self.judged(("few", grains, FORTY_NINES, (1, 2), least_paper(grains)), False)


class TestBook(FindingCase):
    def test_a_text_that_writes_no_book(self):
        for text in ["", "drying ", "drying\n", " drying", "drying\n0 draw Ann", "drying\n5 draw a\n4 draw a", TEXT + "\n",
                     TEXT.replace("30 draw", "29 draw"), "book", None, 0, (), ["drying"], ("drying",), {"drying": ()}]:
            self.judged(("book", text, ()), False)
            self.judged(("book", text, CAME), False)

    def test_results_of_another_book(self):
        for other in [TEXT.replace("12", "13"), TEXT.replace("5 pay", "6 pay"), TEXT.replace("pay 1 bo", "pay 2 bo"),
                      TEXT.replace("ann ale 1\n", "eve ale 1\n"), TEXT.replace("c1 ale 20", "c1 ale 9")]:
            self.judged(("book", other, CAME), read_book(other).results() == CAME)
            self.judged(("book", other, read_book(other).results()), True)

    def test_truths_and_numbers_exchanged(self):
        self.judged(("book", TEXT, CAME), True)
        for at, (number, done, told) in enumerate(CAME):
            for row in [(number, int(done), told), (number, not done, told), (W(number), done, told), (number + 1, done, told),
                        (number, done), (number, done, told, None), [number, done, told], (str(number), done, told),
                        (number, str(done), told), (number, done, "None"), (number, done, 0), (number, done, False),
                        (number, done, ()), (number, done, True)]:
                self.judged(("book", TEXT, CAME[:at] + (row,) + CAME[at + 1:]), False)
        for row in [(False, True, None), (0, 1, None), (0, True, False), (0, True, 0)]:
            self.judged(("book", TEXT, (row,) + CAME[1:]), False)
        self.judged(("book", TEXT, CAME[:1] + ((True, True, None),) + CAME[2:]), False)

    def test_results_in_another_order_left_out_and_more(self):
        for order in itertools.permutations(CAME):
            self.judged(("book", TEXT, order), order == CAME)
        for at in range(len(CAME)):
            self.judged(("book", TEXT, CAME[:at] + CAME[at + 1:]), False)
            self.judged(("book", TEXT, CAME[:at] + (CAME[at],) + CAME[at:]), False)
        for thing in [None, (), list(CAME), {0: CAME[0]}, CAME + (None,), True]:
            self.judged(("book", TEXT, thing), False)

    def test_notes_and_weights_told(self):
        for note in [Note("bo", "ale", 11, 0), Note("bo", "ale", 10, 1), Note("bob", "ale", 11, 1), Note("bo", "rum", 11, 1),
                     ("bo", "ale", 11, 1), "bo 11 ale 1", None, Cask("c1", 0)]:
            self.judged(("book", TEXT, CAME[:3] + ((3, True, note),) + CAME[4:]), False)
        for told in [(("c1", W(10)),), (("c2", W(11)),), (("c1", 11),), [("c1", W(11))], (["c1", W(11)],), ("c1", W(11)),
                     (("c1", W(11)), ("c1", W(11))), (("c1", W(22, 2).plus(W(1, 10 ** 12))),)]:
            self.judged(("book", TEXT, CAME[:5] + ((5, True, told),)), False)
        self.judged(("book", TEXT, CAME[:5] + ((5, True, (("c1", W(22, 2)),)),)), True)


class TestAnything(FindingCase):
    def test_other_kinds(self):
        for thing in OTHER_KINDS + ODD_TEXTS + [0, 1, -1, FORTY_NINES]:
            self.judged(thing, False)
            for word in ["sums", "taking", "shares", "few", "book"]:
                for many in range(6):
                    self.judged((word,) + (thing,) * many, is_so((word,) + (thing,) * many))
            for finding in FINDINGS:
                for at in range(len(finding)):
                    changed = finding[:at] + (thing,) + finding[at + 1:]
                    self.judged(changed, is_so(changed))

    def test_deep_ones(self):
        for finding in FINDINGS:
            for kind in [tuple, list, dict]:
                for many in [1, 2, 25]:
                    self.judged(nested(finding, kind, many), False)
                    for at, part in enumerate(finding):
                        changed = finding[:at] + (nested(part, kind, many),) + finding[at + 1:]
                        self.judged(changed, False)

    def test_many_parts(self):
        notes = tuple([Note("n" + one + two + three, "ale", 1) for one in "abcdefghij" for two in "abcdefghij"
                       for three in "abcdefghij"])
        self.judged(("sums", notes, W(500), sums_of(notes, W(500))), True)
        self.judged(("sums", notes, W(500), sums_of(notes, W(501))), False)
        casks = tuple([Cask("c" + str(at), 0, (("ale", W(1, 7)),)) for at in range(1, 1500)])
        rows = tuple([("c" + str(at), W(1, 7)) for at in range(1, 1401)])
        self.judged(("taking", casks, "ale", 200, rows), True)
        self.judged(("taking", casks, "ale", 200, rows[1:] + (("c1500", W(1, 7)),)), False)
        text = "drying" + "\n0 draw a" * 880
        self.judged(("book", text, tuple([(at, False, "NoNote") for at in range(880)])), True)
        self.judged(("book", text, tuple([(at, False, "NoNote") for at in range(879)])), False)

    def test_what_is_handed_in_stays(self):
        for finding in FINDINGS + [["book", TEXT, [CAME]], ("few", [3], 3, [0], {0: [1]})]:
            ahead = copy.deepcopy(finding)
            finding_holds(finding)
            self.assertEqual(finding, ahead)

    def test_asked_again_and_by_name(self):
        for finding in FINDINGS:
            self.assertIs(finding_holds(thing=finding), True)
            self.assertIs(finding_holds(thing=finding[:-1]), False)
            self.judged(finding, True)


if __name__ == "__main__":
    unittest.main()
