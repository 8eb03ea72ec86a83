"""Promise 23: books of deeds, told by days in any order."""

import copy
import itertools
import random
import unittest

from casknotes import errors
from casknotes.books import Book
from casknotes.errors import NoDay, NoDeed, NoPlace
from casknotes.notes import Note
from casknotes.stores import Store
from casknotes.weights import Weight
from booking import DRYING, TALE, BookCase, book_of, numbers, told_by_hand
from deeding import DEEDS, is_such
from storing import ANYTHING, everything
from things import FORTY_NINES, nested, spoiled

W = Weight


def numbered(rows):
    return [(number, day, deed) for number, (day, deed) in enumerate(rows)]


class TestTell(BookCase):
    def test_numbers_from_0_on(self):
        for rows in [TALE, TALE[::-1]]:
            book = Book(DRYING)
            for number, (day, deed) in enumerate(rows):
                self.is_just(book.tell(day, deed), number)
                self.is_just(len(book), number + 1)

    def test_struck_ones_are_counted(self):
        book = book_of(TALE[:3])
        book.strike(2)
        self.is_just(book.tell(1, TALE[2][1]), 3)
        for number in [0, 1, 3]:
            book.strike(number)
        self.is_just(len(book), 0)
        self.is_just(book.tell(0, TALE[0][1]), 4)

    def test_the_same_deed_again(self):
        book = Book()
        for number in range(4):
            self.is_just(book.tell(3, ("draw", "ann")), number)
        self.is_just(book.results(), tuple([(number, False, "NoNote") for number in range(4)]))

    def test_each_right_deed_and_day(self):
        book = Book()
        for number, deed in enumerate(DEEDS):
            for day in [0, 30, 1200]:
                again = copy.deepcopy(book)
                self.is_just(again.tell(day, deed), number)
                self.is_just(again.deed(number), (day, deed))
            book.tell(7, deed)

    def test_no_day_of_anything(self):
        book = book_of(TALE[:5], DRYING)
        for day in ANYTHING + [-1, 1201, FORTY_NINES, "0", 30 * 41]:
            self.stays(book, lambda: book.tell(day, ("draw", "ann")), NoDay)

    def test_no_deed_of_anything(self):
        book = book_of(TALE[:5], DRYING)
        for deed in ANYTHING + [0, 1, ("draw",), ("draw", "Ann"), ("cask", "c1", None), ["draw", "ann"]]:
            self.stays(book, lambda: book.tell(3, deed), NoDeed)

    def test_deeds_otherwise_in_one_place(self):
        book = Book()
        for deed in [("pay", ("ann", "bo"), 3, None), ("burn", "c1", "ale", W(1, 2)), ("part", "a", (("b", 1), ("c", 2)))]:
            for thing in spoiled(deed):
                if not is_such(thing):
                    with self.assertRaises(NoDeed):
                        book.tell(3, thing)
        self.is_just(len(book), 0)
        self.is_just(book.tell(0, ("draw", "ann")), 0)

    def test_no_day_ahead_of_no_deed(self):
        book = book_of(TALE[:3])
        for day, deed in itertools.product([None, -1, 1201, True, "0"], [None, (), ("draw",), 7, nested(1, tuple, 30)]):
            self.stays(book, lambda: book.tell(day, deed), NoDay)

    def test_by_name_and_by_place(self):
        book = Book(drying=DRYING)
        self.is_just(book.tell(day=3, deed=("draw", "ann")), 0)
        self.is_just(book.tell(deed=("draw", "bo"), day=1), 1)
        self.is_just(book.tell(2, deed=("draw", "cy")), 2)
        self.is_just(book.deed(number=1), (1, ("draw", "bo")))
        self.is_just(book.strike(number=1), None)
        self.stays(book, lambda: book.deed(number=1), NoPlace)


class TestPlaces(BookCase):
    def test_deeds_by_their_numbers(self):
        book = book_of(TALE[::-1], DRYING)
        for number, told in enumerate(TALE[::-1]):
            self.is_just(book.deed(number), told)

    def test_struck_ones_count_no_more(self):
        book = book_of(TALE, DRYING)
        left = numbered(TALE)
        for number in [9, 0, 30, 4, 16, 1]:
            self.is_just(book.strike(number), None)
            left = [row for row in left if row[0] != number]
            self.says(book, DRYING, left)
            self.stays(book, lambda: book.strike(number), NoPlace, number=number)
            self.stays(book, lambda: book.deed(number), NoPlace, number=number)
        for number, _, _ in left:
            book.strike(number)
        self.says(book, DRYING, [])
        self.assertTrue(book == Book(DRYING))

    def test_no_place_of_anything(self):
        book = book_of(TALE[:4], DRYING)
        book.strike(2)
        for number in ANYTHING + [2, 4, 5, -1, -4, 60, FORTY_NINES, "0", "1", (0,), 10 ** 12]:
            self.stays(book, lambda: book.strike(number), NoPlace, number=number)
            self.stays(book, lambda: book.deed(number), NoPlace, number=number)
        for book in [Book(), book_of(TALE[:1])]:
            for number in [True, False, 1, -1]:
                self.stays(book, lambda: book.strike(number), NoPlace, number=number)
                self.stays(book, lambda: book.deed(number), NoPlace, number=number)

    def test_it_is_an_index_error(self):
        for ask in [Book().strike, Book().deed]:
            with self.assertRaises(IndexError):
                ask(0)
            with self.assertRaises(LookupError):
                ask(None)


class TestStoreAndResults(BookCase):
    def test_in_the_order_of_the_days(self):
        book = book_of(TALE, DRYING)
        self.says(book, DRYING, numbered(TALE))
        self.is_just(book.store().today(), 63)
        came = {name for _, done, name in book.results() if not done}
        self.assertEqual(came, {"Twice", "NoMark", "NoWare", "Short", "NotBorne", "NoSum", "NoNote", "LostNote", "NoName"})
        self.assertTrue(all([hasattr(errors, name) for name in came]))
        self.assertEqual({TALE[number][1][0] for number, done, _ in book.results() if done},
                         {deed[0] for _, deed in TALE})

    def test_what_each_told(self):
        came = dict([(number, told) for number, done, told in book_of(TALE, DRYING).results() if done])
        self.is_just(came[0], None)
        self.is_just(came[18], Note("lou", "ale", 11, 1))
        self.is_just(came[20], None)
        self.is_just(came[22], (("c1", W(6)),))
        self.is_just(came[25], (("lou", 2),))
        self.is_just(came[28], (("ale", (("lou", W(9)), (None, W(261, 10)))), ("rum", ((None, W(7, 8)),)),
                                ("tea", ((None, W(9, 2)),))))

    def test_told_in_any_order_of_days(self):
        chance = random.Random(23)
        orders = [TALE[::-1]] + [chance.sample(TALE, len(TALE)) for _ in range(40)]
        for rows in orders:
            self.says(book_of(rows, DRYING), DRYING, numbered(rows))

    def test_days_in_any_order_each_days_deeds_in_their_order(self):
        chance = random.Random(24)
        due = book_of(TALE, DRYING)
        for _ in range(30):
            days = sorted({day for day, _ in TALE}, key=lambda day: chance.random())
            rows = [row for day in days for row in TALE if row[0] == day]
            # One of each day by turns is late as well.
            left, mixed = {day: [row for row in TALE if row[0] == day] for day in days}, []
            while any(left.values()):
                mixed.append(left[chance.choice([day for day in days if left[day]])].pop(0))
            for told in [rows, mixed]:
                book = book_of(told, DRYING)
                self.assertTrue(book == due and due == book)
                self.assertTrue(book.store() == due.store())
                self.assertEqual(sorted([(told[number], came) for number, *came in book.results()], key=repr),
                                 sorted([(TALE[number], came) for number, *came in due.results()], key=repr))

    def test_those_of_a_day_as_they_were_told(self):
        deeds = [("cask", "c1", (("ale", W(5)),)), ("make", "ann", "ale", 5), ("draw", "ann"), ("fire", ("c1",))]
        for order in itertools.permutations(deeds):
            rows = [(8, deed) for deed in order]
            self.says(book_of(rows), (), numbered(rows))

    def test_what_is_told_late_counts_as_told_in_time(self):
        book = Book(DRYING)
        book.tell(40, ("make", "ann", "ale", 9))
        self.is_just(book.results(), ((0, False, "NotBorne"),))
        self.is_just(book.store().today(), 0)
        book.tell(20, ("cask", "c1", (("ale", W(10)),)))
        self.is_just(book.results(), ((0, True, None), (1, True, None)))
        self.is_just(book.store().notes(), (Note("ann", "ale", 9, 40),))
        book.tell(29, ("burn", "c1", "ale", W(1, 2)))
        self.is_just(book.results(), ((0, False, "NotBorne"), (1, True, None), (2, True, None)))
        book.tell(30, ("weigh", "c1", (("ale", W(9)),)))
        self.is_just(book.results(), ((0, True, None), (1, True, None), (2, True, None), (3, True, None)))
        book.tell(35, ("make", "ann", "rum", 1))
        book.strike(2)
        self.is_just(book.results(), ((0, True, None), (1, True, None), (3, True, None), (4, False, "NotBorne")))
        book.tell(0, ("cask", "c2", (("rum", W(2)),)))
        self.is_just(book.results(), ((0, False, "Twice"), (1, True, None), (3, True, None), (4, True, None),
                                      (5, True, None)))

    def test_refused_ones_leave_the_day(self):
        book = Book(DRYING)
        book.tell(5, ("cask", "c1", (("ale", W(10)),)))
        book.tell(90, ("burn", "c1", "gin", W(1)))
        book.tell(600, ("draw", "ann"))
        self.is_just(book.store().today(), 5)
        self.is_just(book.store().stock("ale"), W(10))
        self.is_just(book.results(), ((0, True, None), (1, False, "NoWare"), (2, False, "NoNote")))

    def test_full(self):
        rows = [(0, ("cask", "c" + str(at), (("ale", W(9)),))) for at in range(10)]
        rows += [(1, ("cask", "cff" + str(at), ())) for at in range(3)]
        rows += [(2, ("make", "n" + letter, "ale", 1)) for letter in "abcdefghijklmnopqrstuvwxy"]
        book = book_of(rows)
        self.says(book, (), numbered(rows))
        self.assertEqual([row for row in book.results() if not row[1]], [(12, False, "Full"), (37, False, "Full")])

    def test_nothing_told(self):
        for drying in [None, (), DRYING]:
            self.says(Book(drying), drying, [])
            self.assertTrue(Book(drying).store() == Store(drying, 0))
            self.is_just(Book(drying).results(), ())

    def test_more_than_sixty(self):
        rows = [(day, ("cask", "c" + str(day % 9 + 1), (("ale", W(5)),))) for day in range(300)]
        self.says(book_of(rows, DRYING), DRYING, numbered(rows))


class TestOwn(BookCase):
    def test_what_is_done_to_a_told_store_changes_the_book_in_nothing(self):
        book = book_of(TALE, DRYING)
        ahead, came = copy.deepcopy(book), book.results()
        store = book.store()
        store.cask(100, "c55", (("gin", W(4)),))
        store.make(100, "zed", "gin", 3)
        store.draw(101, "zed")
        self.assertFalse(store == book.store())
        self.assertTrue(book == ahead)
        self.is_just(book.results(), came)
        self.assertTrue(book.store() == ahead.store())
        self.assertIsNot(book.store(), book.store())

    def test_a_told_store_stays_when_the_book_goes_on(self):
        book = book_of(TALE[:10], DRYING)
        store = book.store()
        ahead = everything(store)
        book.tell(0, ("cask", "c55", ()))
        book.strike(0)
        self.assertEqual(everything(store), ahead)

    def test_fields_that_are_set(self):
        deed = ("cask", "c1", (("ale", W(5)),))
        book = Book()
        book.tell(0, deed)
        book.tell(1, ("make", "ann", "ale", 4))
        book.tell(2, ("pay", ("ann",), 1, "bo"))
        deed[2][0][1].top = 9
        book.deed(0)[1][2][0][1].top = 9
        book.results()[2][2].grains = 9
        book.store().casks()[0].parts[0][1].top = 9
        self.says(book, (), [(0, 0, ("cask", "c1", (("ale", W(5)),))), (1, 1, ("make", "ann", "ale", 4)),
                             (2, 2, ("pay", ("ann",), 1, "bo"))])

    def test_what_is_handed_in_stays(self):
        rows, drying = copy.deepcopy(TALE), copy.deepcopy(DRYING)
        book = book_of(rows, drying)
        book.results()
        book.store().cask(90, "c55", ())
        self.assertEqual((rows, drying), (TALE, DRYING))

    def test_two_books_share_nothing(self):
        one, other = Book(DRYING), Book(DRYING)
        for at, (day, deed) in enumerate(TALE):
            one.tell(day, deed)
            if at % 2:
                other.tell(day, deed)
            else:
                other.tell(1200 - day, deed)
            self.says(one, DRYING, numbered(TALE[:at + 1]))
        one.strike(3)
        self.assertEqual(numbers(one)[0], [at for at in range(len(TALE)) if at != 3])
        self.assertEqual(numbers(other)[0], list(range(len(TALE))))
        self.says(other, DRYING, [(at, day if at % 2 else 1200 - day, deed) for at, (day, deed) in enumerate(TALE)])


class TestEqual(BookCase):
    def both(self, one, other, due):
        self.assertIs(one == other, due)
        self.assertIs(other == one, due)
        self.assertIs(one != other, not due)

    def test_told_the_same(self):
        for drying in [None, DRYING]:
            self.both(Book(drying), Book(drying), True)
            self.both(book_of(TALE, drying), book_of(TALE, drying), True)
        self.both(Book(), Book(()), True)
        self.both(Book(None), Book(()), True)

    def test_numbers_are_not_looked_at(self):
        one, other = book_of(TALE[:5]), Book()
        for day, deed in reversed([(1200, ("draw", "ann"))] + TALE[:1] + TALE[2:5]):
            other.tell(day, deed)
        other.tell(*TALE[1])
        self.both(one, other, False)
        other.strike(4)
        # Both have the same deeds on the same days, but under other numbers.
        self.both(one, other, True)
        self.assertNotEqual(one.results(), other.results())

    def test_the_drying_as_tuples(self):
        dryings = [(), DRYING, (("ale", 1, 10),), (("ale", 2, 20), ("rum", 1, 2)), (("ale", 0, 1),)]
        for one, other in itertools.combinations(dryings, 2):
            self.both(Book(one), Book(other), False)
            self.both(book_of(TALE, one), book_of(TALE, other), False)

    def test_a_day_a_deed_one_more_one_less(self):
        for at in [0, 7, 20, len(TALE) - 1]:
            rows = list(TALE)
            rows[at] = (TALE[at][0] + 1, TALE[at][1])
            self.both(book_of(TALE), book_of(rows), False)
            rows[at] = (TALE[at][0], ("draw", "zed"))
            self.both(book_of(TALE), book_of(rows), False)
            self.both(book_of(TALE), book_of(TALE[:at] + TALE[at + 1:]), False)
            struck = book_of(TALE)
            struck.strike(at)
            self.both(struck, book_of(TALE), False)
            self.both(struck, book_of(TALE[:at] + TALE[at + 1:]), True)

    def test_the_order_of_one_day(self):
        rows = [(3, ("draw", "ann")), (3, ("draw", "bo")), (4, ("draw", "cy"))]
        for order in itertools.permutations(rows):
            self.both(book_of(rows), book_of(order), order.index(rows[0]) < order.index(rows[1]))

    def test_deeds_that_come_to_the_same_are_unlike(self):
        self.both(book_of([(0, ("draw", "ann"))]), book_of([(0, ("draw", "bo"))]), False)
        self.both(book_of([(0, ("draw", "ann"))]), Book(), False)
        self.both(book_of([(0, ("weigh", "c1", ()))]), book_of([(0, ("cask", "c1", ()))]), False)

    def test_other_kinds(self):
        for book in [Book(), book_of(TALE)]:
            for thing in ANYTHING + [0, 1, book.store(), book.results(), Store(), TALE, tuple(TALE), DRYING, "drying"]:
                self.both(book, thing, False)
        self.assertIn(book_of(TALE), [None, book_of(TALE)])

    def test_stores_told_by_hand(self):
        store, came = told_by_hand(DRYING, numbered(TALE))
        self.assertTrue(book_of(TALE, DRYING).store() == store)
        self.is_just(book_of(TALE, DRYING).results(), came)


if __name__ == "__main__":
    unittest.main()
