"""Promise 20: two stores join to a new one."""

import copy
import itertools
import unittest

from casknotes.casks import Cask
from casknotes.errors import Full, NoNote, NotAlike, TooLate, Twice
from casknotes.joining import joined
from casknotes.notes import Note
from casknotes.stores import Store
from casknotes.weights import Weight
from storing import DRYING, NOTES, StoreCase, everything, filled

W = Weight
FATES = {"kay": "parted", "kb": "merged", "kc": "merged", "kd": "lost", "ke": "drawn", "kf": "sent", "kg": "paid",
         "ka": "stands", "ki": "stands", "kj": "stands", "kk": "stands", "kl": "stands"}


def another():
    """A store at day 35, begun at day 3, that shares neither marks nor names with the filled one."""
    store = Store(DRYING, 3)
    store.cask(3, "cb", (("ale", W(100)), ("rum", W(10)), ("tea", W(5))))
    store.cask(4, "c0", (("ale", W(2)),))
    store.cask(4, "c3", (("gin", W(7)),))
    store.make(5, "kay", "ale", 5)
    store.part(6, "kay", (("ka", 2), ("ki", 3)))
    store.make(7, "kb", "ale", 3)
    store.make(7, "kc", "ale", 4)
    store.merge(8, ("kb", "kc"), "kj")
    store.make(9, "kd", "tea", 2)
    store.lose(9, "kd", "kk")
    store.make(10, "ke", "rum", 1)
    store.draw(10, "ke")
    store.make(11, "kf", "gin", 7)
    store.send(11, "c3", "kf")
    store.make(12, "kg", "rum", 4)
    store.pay(35, ("kg",), 3, "kl")
    return store


def crowd(casks, names, letter, gone=0):
    """A store in which so many casks stand and so many names are given, so many of them gone."""
    store = Store()
    for at in range(casks):
        store.cask(0, "c" + letter + str(at), (("ale", W(99)),))
    for at in range(names):
        store.make(1, "n" + letter + "abcdefghijklmnopqrstuvwxyz"[at], "ale", 1)
    for note in store.notes()[:gone]:
        store.pay(1, (note.name,), 1)
    return store


class JoinCase(StoreCase):
    def joins(self, one, other):
        """Joined either way about and again alike, by name and by place; both stay as they were."""
        ahead, told = (copy.deepcopy(one), copy.deepcopy(other)), (everything(one), everything(other))
        store = joined(one, other)
        self.assertIs(store.__class__, Store)
        for again in [joined(one, other), joined(other, one), joined(one=one, other=other),
                      joined(other=one, one=other), joined(one, other=other)]:
            self.assertTrue(again == store)
            self.assertIsNot(again, store)
            self.assertEqual(everything(again), everything(store))
        self.assertTrue(one == ahead[0] and other == ahead[1])
        self.assertEqual((everything(one), everything(other)), told)
        self.is_just(store.casks(), store.casks())
        return store

    def not_joined(self, one, other, error, **fields):
        """Either way about it is refused with just this error; both stay as they were."""
        for here, there in [(one, other), (other, one)]:
            ahead = copy.deepcopy(here), copy.deepcopy(there)
            with self.assertRaises(error) as caught:
                joined(here, there)
            self.assertIs(caught.exception.__class__, error)
            for name, due in fields.items():
                self.is_just(getattr(caught.exception, name), due)
            self.assertTrue(here == ahead[0] and there == ahead[1])
            self.assertEqual((everything(here), everything(there)), (everything(ahead[0]), everything(ahead[1])))


class TestJoined(JoinCase):
    def test_day_casks_notes_fates(self):
        store = self.joins(filled(), another())
        self.is_just(store.today(), 35)
        self.is_just(store.casks(), (
            Cask("cb", 3, (("ale", W(90)), ("rum", W(9, 2)), ("tea", W(5)))),
            Cask("c0", 4, (("ale", W(9, 5)),)),
            Cask("c1", 5, (("ale", W(81, 5)), ("gin", W(7, 2)))), Cask("c2", 6), Cask("c9", 6, (("ale", W(27, 10)),)),
            Cask("ca", 6, (("ale", W(54, 5)), ("rum", W(9, 2))))))
        self.is_just(store.notes(), (
            Note("ka", "ale", 2, 5), Note("ki", "ale", 3, 5), Note("ann", "ale", 12, 7), Note("kj", "ale", 7, 7),
            Note("bo", "ale", 8, 8), Note("cy", "rum", 4, 8), Note("dee", "gin", 3, 9), Note("eve", "ale", 5, 9),
            Note("kk", "tea", 2, 9), Note("kl", "rum", 1, 12)))
        for name, due in FATES.items():
            self.is_just(store.fate(name), due)
        for name in ["ann", "bo", "cy", "dee", "eve"]:
            self.is_just(store.fate(name), "stands")
        self.is_just(store.fate("lou"), "lost")
        self.is_just(store.fate("max"), "drawn")
        for name in ["c1", "cb", "zed", "c7", "c3"]:
            with self.assertRaises(NoNote):
                store.fate(name)
        self.assertEqual(sorted(set(FATES.values())), ["drawn", "lost", "merged", "paid", "parted", "sent", "stands"])

    def test_sums_of_both(self):
        one, other = filled(), another()
        store = self.joins(one, other)
        for ware in ["ale", "gin", "rum", "tea"]:
            for day in [35, 60, 1200]:
                self.is_just(store.stock(ware, day), one.stock(ware, day).plus(other.stock(ware, day)))
            self.is_just(store.promised(ware), one.promised(ware) + other.promised(ware))
        self.assertEqual(len(store), len(one) + len(other))

    def test_of_the_same_day(self):
        one, other = filled(), Store(DRYING, 10)
        other.cask(10, "cb", (("ale", W(10)),))
        store = self.joins(one, other)
        self.assertEqual(store.today(), 10)
        self.assertEqual(store.casks(), one.casks() + other.casks())
        self.assertEqual(store.notes(), one.notes())

    def test_turns_between(self):
        for day, many in [(10, 0), (29, 0), (30, 1), (31, 1), (59, 1), (60, 2), (95, 3), (300, 10), (1200, 40)]:
            one, other = Store(DRYING), Store(DRYING, day)
            one.cask(10, "c1", (("ale", W(10)), ("rum", W(8)), ("tea", W(1, 3))))
            other.cask(day, "c2", (("ale", W(10)),))
            store = self.joins(one, other)
            self.assertEqual(store.today(), day)
            due = (("ale", W(10).times(9 ** many, 10 ** many)), ("rum", W(8).times(1, 2 ** many)), ("tea", W(1, 3)))
            self.assertEqual(dict([(cask.mark, cask.parts) for cask in store.casks()]),
                             {"c1": due, "c2": (("ale", W(10)),)})

    def test_at_a_turn_it_dries_once(self):
        one, other = Store(DRYING), Store(DRYING)
        one.cask(30, "c1", (("ale", W(10)),))
        other.cask(29, "c2", (("ale", W(10)),))
        store = self.joins(one, other)
        self.is_just(store.casks(), (Cask("c2", 29, (("ale", W(9)),)), Cask("c1", 30, (("ale", W(10)),))))
        store.weigh(31, "c1", (("ale", W(10)),))
        self.is_just(store.stock("ale"), W(19))

    def test_without_a_drying(self):
        one, other = Store(), Store(None, 700)
        one.cask(0, "c1", (("ale", W(10)),))
        one.make(0, "ann", "ale", 10)
        self.assertEqual(self.joins(one, other).casks(), one.casks())
        self.assertEqual(self.joins(one, other).today(), 700)
        self.assertTrue(joined(one, Store((), 0)) == one)

    def test_with_nothing_there(self):
        self.assertTrue(self.joins(Store(), Store()) == Store())
        self.assertTrue(self.joins(Store(DRYING, 8), Store(DRYING, 5)) == Store(DRYING, 8))
        self.assertTrue(self.joins(filled(), Store(DRYING)) == filled())
        self.assertEqual(self.joins(Store(DRYING, 90), filled()).notes(), NOTES)
        self.assertEqual(len(self.joins(Store(DRYING), Store(DRYING))), 0)

    def test_with_itself(self):
        store = Store(DRYING, 5)
        self.assertTrue(self.joins(store, store) == store)
        self.assertIsNot(joined(store, store), store)
        self.not_joined(filled(), filled(), Twice, what="ann")
        for store in [filled(), another()]:
            with self.assertRaises(Twice):
                joined(store, store)

    def test_of_casks_alone_and_of_notes_alone(self):
        one, other = Store(), Store()
        for mark in ["cff", "c10", "c9"]:
            one.cask(4, mark, ())
        other.cask(4, "cf", (("ale", W(5)),))
        other.make(4, "b", "ale", 2)
        other.make(4, "a", "ale", 3)
        other.fire(4, ("cf",))
        store = self.joins(one, other)
        self.assertEqual([cask.mark for cask in store.casks()], ["c9", "c10", "cff"])
        self.assertEqual([note.name for note in store.notes()], ["a", "b"])
        self.assertEqual([note.name for note in store.excess()], ["b", "a"])

    def test_by_age_all_together(self):
        one, other = Store(), Store()
        for store, marks, names in [(one, ["c1", "c100", "cb"], ["b", "d", "f"]), (other, ["c2", "cff", "ca"], ["a", "c", "e"])]:
            for day, mark in [(0, marks[0]), (2, marks[1]), (2, marks[2])]:
                store.cask(day, mark, (("ale", W(9)),))
            for day, name in [(3, names[0]), (5, names[1]), (5, names[2])]:
                store.make(day, name, "ale", 2)
        store = self.joins(one, other)
        self.assertEqual([cask.mark for cask in store.casks()], ["c1", "c2", "ca", "cb", "cff", "c100"])
        self.assertEqual([note.name for note in store.notes()], ["a", "b", "c", "d", "e", "f"])
        self.assertEqual(store.draw(5, "f"), (("c1", W(2)),))


class TestNotAlike(JoinCase):
    def test_dryings_unlike(self):
        dryings = [(), (("ale", 1, 10),), (("ale", 2, 10),), (("ale", 1, 11),), (("ale", 2, 20),), (("alf", 1, 10),),
                   (("ale", 0, 10),), (("ale", 1, 10), ("rum", 0, 1)), (("ale", 1, 10), ("rum", 0, 2)),
                   (("rum", 0, 1),)]
        for one, other in itertools.combinations(dryings, 2):
            self.not_joined(Store(one), Store(other), NotAlike)
        for drying in dryings:
            self.assertTrue(self.joins(Store(drying), Store(drying)) == Store(drying))

    def test_ahead_of_twice_and_full(self):
        for drying in [(), DRYING[:1]]:
            one, other = filled(), Store(drying, 10)
            other.cask(10, "c1", ())
            self.not_joined(one, other, NotAlike)
        one, other = crowd(12, 24, "a"), Store(DRYING)
        for at in range(9):
            other.cask(0, "ca" + str(at), ())
        self.not_joined(one, other, NotAlike)


class TestTwice(JoinCase):
    def given(self, marks=(), names=(), gone=()):
        """A store that gave these marks and names, some of them gone."""
        store = Store()
        store.cask(0, "cffffff", (("ale", W(99)),))
        for mark in marks:
            store.cask(0, mark, ())
        for name in names:
            store.make(0, name, "ale", 1)
        for what in gone:
            if what in marks:
                store.fire(0, (what,))
            else:
                store.draw(0, what)
        store.fire(0, ("cffffff",))
        return store

    def other(self, marks=(), names=(), gone=()):
        store = Store()
        store.cask(0, "ceeeeee", (("ale", W(99)),))
        for mark in marks:
            store.cask(0, mark, ())
        for name in names:
            store.make(0, name, "ale", 1)
        for what in gone:
            if what in marks:
                store.send(0, what)
            else:
                store.pay(0, (what,), 1)
        return store

    def test_the_first_as_texts_rise(self):
        marks, names = ["c2", "c10", "c9", "cab"], ["b", "c", "cac", "caa", "d", "ca"]
        for many in range(3):
            for here in itertools.combinations(marks, many):
                for there in itertools.combinations(names, many):
                    if here or there:
                        self.not_joined(self.given(here, there), self.other(here, there), Twice,
                                        what=min(here + there))

    def test_marks_rise_as_texts_here(self):
        self.not_joined(self.given(["c9", "c10"]), self.other(["c9", "c10"]), Twice, what="c10")
        self.not_joined(self.given(["c2", "c1f"]), self.other(["c2", "c1f"]), Twice, what="c1f")

    def test_names_and_marks_together(self):
        self.not_joined(self.given(["cb"], ["ca"]), self.other(["cb"], ["ca"]), Twice, what="ca")
        self.not_joined(self.given(["cb"], ["cc"]), self.other(["cb"], ["cc"]), Twice, what="cb")
        self.not_joined(self.given(["cb"], ["c"]), self.other(["cb"], ["c"]), Twice, what="c")
        self.not_joined(self.given(["cb"], ["cb"]), self.other(["cb"], ["cb"]), Twice, what="cb")
        self.not_joined(self.given(["cb"], ["cb"]), self.other(["cb"]), Twice, what="cb")
        self.not_joined(self.given(["cb"], ["cb"]), self.other([], ["cb"]), Twice, what="cb")

    def test_gone_ones_too(self):
        for here in [(), ("c5", "bo")]:
            for there in [(), ("c5", "bo")]:
                self.not_joined(self.given(["c5"], ["bo"], here), self.other(["c5"], ["bo"], there), Twice, what="bo")
                self.not_joined(self.given(["c5"], [], here[:1]), self.other(["c5"], ["bo"], there), Twice, what="c5")

    def test_a_mark_here_and_a_name_there(self):
        store = self.joins(self.given(["ca", "cab"], ["cb"]), self.other(["cb", "c1"], ["ca", "cab", "c"]))
        self.assertEqual([cask.mark for cask in store.casks()], ["c1", "ca", "cb", "cab", "ceeeeee"])
        self.assertEqual([note.name for note in store.notes()], ["c", "ca", "cab", "cb"])

    def test_parted_merged_lost_names(self):
        for name in FATES:
            other = Store(DRYING)
            other.cask(0, "cffff", (("ale", W(9)),))
            other.make(0, name, "ale", 1)
            self.not_joined(another(), other, Twice, what=name)

    def test_ahead_of_full(self):
        one, other = crowd(12, 24, "a"), Store()
        other.cask(0, "ca5", (("ale", W(9)),))
        other.make(0, "nac", "ale", 2)
        self.not_joined(one, other, Twice, what="ca5")


class TestFull(JoinCase):
    def test_casks_that_stand(self):
        for here in [0, 1, 6, 11, 12]:
            store = self.joins(crowd(here, 0, "a"), crowd(12 - here, 0, "b"))
            self.assertEqual(len(store.casks()), 12)
            if here > 0:
                self.not_joined(crowd(here, 0, "a"), crowd(13 - here, 0, "b"), Full)

    def test_casks_that_are_gone_are_not_counted(self):
        one, other = crowd(12, 0, "a"), crowd(12, 0, "b")
        self.not_joined(one, other, Full)
        other.fire(1, tuple([cask.mark for cask in other.casks()]))
        store = self.joins(one, other)
        self.assertEqual(len(store.casks()), 12)
        with self.assertRaises(Full):
            store.cask(1, "c0", ())
        store.fire(1, ("ca0",))
        with self.assertRaises(Twice):
            store.cask(1, "cb3", ())
        store.cask(1, "c0", ())

    def test_names_ever_given(self):
        for here in [1, 12, 23]:
            for gone in [0, 1]:
                store = self.joins(crowd(1, here, "a", gone), crowd(3, 24 - here, "b", gone))
                self.assertEqual(len(store), 24 - 2 * gone)
                with self.assertRaises(Full):
                    store.make(1, "zed", "ale", 1)
                self.not_joined(crowd(1, here, "a", gone), crowd(3, 25 - here, "b", gone), Full)

    def test_twelve_and_twenty_four(self):
        store = self.joins(crowd(6, 12, "a"), crowd(6, 12, "b"))
        self.assertEqual((len(store.casks()), len(store)), (12, 24))
        self.not_joined(crowd(7, 12, "a"), crowd(6, 12, "b"), Full)
        self.not_joined(crowd(6, 13, "a"), crowd(6, 12, "b"), Full)
        self.not_joined(crowd(7, 13, "a"), crowd(6, 12, "b"), Full)

    def test_marks_and_names_are_not_counted_together(self):
        self.assertEqual(len(self.joins(crowd(12, 24, "a"), Store()).casks()), 12)


class TestGoesOn(JoinCase):
    def deeds(self):
        """Deeds that can be done in the joined store, and their kin in each of both."""
        return [("weigh", ("c1", ())), ("weigh", ("cb", ())), ("make", ("zed", "tea", 1)), ("draw", ("ann",)),
                ("lose", ("kl", "zed")), ("part", ("bo", (("x", 3), ("y", 5)))), ("merge", (("ann", "kj"), "zed")),
                ("pay", (("ann", "ki", "kj"), 20, "zed")), ("send", ("c0", "ki")), ("fire", (("c1", "cb", "ca"),)),
                ("cask", ("c100", (("ale", W(1)),))), ("burn", ("c9", "ale", W(1)))]

    def test_deeds_in_the_joined_one_change_neither(self):
        for word, handed in self.deeds():
            one, other = filled(), another()
            store = joined(one, other)
            getattr(store, word)(61, *handed)
            self.assertFalse(store == joined(one, other))
            self.assertTrue(one == filled() and other == another())
            self.assertEqual((everything(one), everything(other)), (everything(filled()), everything(another())))

    def test_deeds_in_these_change_not_the_joined_one(self):
        one, other = filled(), another()
        store = joined(one, other)
        ahead = copy.deepcopy(store)
        one.make(20, "zed", "ale", 1)
        one.draw(40, "ann")
        one.fire(41, ("c1", "ca"))
        other.weigh(62, "cb", ())
        other.pay(62, ("ka",), 1, "zed")
        other.cask(63, "c55", ())
        self.assertTrue(store == ahead)
        self.assertEqual(everything(store), everything(ahead))
        store.cask(35, "c55", ())
        store.make(35, "zed", "ale", 1)

    def test_fields_that_are_set_are_the_joined_ones_own(self):
        one, other = filled(), another()
        store = joined(one, other)
        ahead = [copy.deepcopy(it) for it in (one, other, store)]
        for cask in one.casks() + other.casks() + store.casks():
            cask.since = 0
            for _, weight in cask.parts:
                weight.top = 1
        for note in one.notes() + other.notes() + store.notes():
            note.grains = 1
        self.assertEqual([everything(it) for it in (one, other, store)], [everything(it) for it in ahead])

    def test_what_was_given_in_either_is_refused(self):
        store = joined(filled(), another())
        for mark in ["c1", "ca", "c9", "c2", "c7", "cb", "c0", "c3"]:
            self.refused(store, "cask", {"day": 35, "mark": mark, "parts": ()}, Twice, what=mark)
        for name in list(FATES) + ["ann", "bo", "cy", "dee", "eve", "lou", "max"]:
            self.refused(store, "make", {"day": 35, "name": name, "ware": "ale", "grains": 1}, Twice, what=name)
            self.refused(store, "lose", {"day": 35, "name": "ann", "fresh": name}, Twice, what=name)

    def test_a_day_less_than_its_own(self):
        for store in [joined(filled(), another()), joined(another(), filled())]:
            for day in [0, 10, 34]:
                self.refused(store, "fire", {"day": day, "marks": ("c1",)}, TooLate, day=35)
                with self.assertRaises(TooLate) as caught:
                    store.stock("ale", day)
                self.is_just(caught.exception.day, 35)

    def test_notes_and_casks_of_both_together(self):
        store = joined(filled(), another())
        self.is_just(store.draw(35, "ann"), (("cb", W(12)),))
        self.is_just(store.pay(36, ("kj", "bo"), 10, "zed"), Note("zed", "ale", 5, 8))
        self.is_just(store.send(37, "c2", "ki"), ())
        self.is_just(store.send(60, "ca", "eve"), (("eve", 5), ("ka", 2), ("ki", 3), ("cy", 3)))
        self.is_just(store.fate("ka"), "sent")
        self.is_just(store.fate("cy"), "stands")

    def test_joined_on_with_a_third(self):
        third = Store(DRYING, 40)
        third.cask(40, "c77", (("ale", W(1)),))
        third.make(40, "pip", "ale", 1)
        one = joined(joined(filled(), another()), third)
        other = joined(filled(), joined(third, another()))
        self.assertTrue(one == other)
        self.assertEqual((one.today(), len(one.casks()), len(one)), (40, 7, 11))


if __name__ == "__main__":
    unittest.main()
