"""Promise 19: what is told of a store, and when two are equal."""

import copy
import unittest

from casknotes.casks import Cask
from casknotes.errors import NoDay, NoNote, TooLate
from casknotes.notes import Note, by_age
from casknotes.stores import Store
from casknotes.sums import sums_of
from casknotes.weights import Weight
from storing import ANYTHING, CASKS, DRYING, NOTES, WARES, StoreCase, crowded, everything, filled

W = Weight
ANN, BO, CY, DEE, EVE = NOTES


class TestNothingThere(StoreCase):
    def test_a_fresh_store(self):
        for store in [Store(), Store(DRYING, 7)]:
            for day in [None, 7, 30, 1200]:
                for ware in WARES:
                    self.is_just(store.stock(ware, day), W(0))
                self.is_just(store.excess(day), ())
            self.is_just(store.promised("ale"), 0)
            self.is_just(store.casks(), ())
            self.is_just(store.notes(), ())
            self.is_just(len(store), 0)
            self.assertIs(bool(store), False)


class TestCasksAndNotes(StoreCase):
    def test_by_age(self):
        store = filled()
        self.is_just(store.casks(), CASKS)
        self.is_just(store.notes(), NOTES)

    def test_casks_of_a_day_by_their_marks_numbers(self):
        store = Store()
        for mark in ["c100", "cf", "c10", "c9", "cff"]:
            store.cask(3, mark, ())
        store.cask(4, "c0", ())
        self.assertEqual([cask.mark for cask in store.casks()], ["c9", "cf", "c10", "cff", "c100", "c0"])

    def test_notes_of_a_day_by_their_names(self):
        store = Store()
        store.cask(0, "c0", (("ale", W(99)),))
        for name, day in [("b", 2), ("ab", 2), ("a", 2), ("aa", 2), ("c", 3), ("ba", 3)]:
            store.make(day, name, "ale", 1)
        self.assertEqual([note.name for note in store.notes()], ["a", "aa", "ab", "b", "ba", "c"])

    def test_as_they_stand_on_its_day(self):
        store = filled()
        store.lose(61, "ann", "fay")
        self.is_just(store.casks()[2], Cask("c9", 6, (("ale", W(243, 100)),)))
        self.is_just(store.notes(), (Note("fay", "ale", 12, 7),) + NOTES[1:])


class TestStock(StoreCase):
    def test_its_own_day(self):
        store = filled()
        for asked in [{}, {"day": None}, {"day": 10}, {"day": 29}]:
            self.is_just(store.stock("ale", **asked), W(33))
            self.is_just(store.stock("gin", **asked), W(7, 2))
            self.is_just(store.stock("rum", **asked), W(9))

    def test_of_a_ware_that_no_cask_has(self):
        for ware in ["tea", "al", "ales", "zed"]:
            for day in [None, 10, 30, 1200]:
                self.is_just(filled().stock(ware, day), W(0))

    def test_a_later_day(self):
        store = filled()
        for day, many in [(10, 0), (29, 0), (30, 1), (59, 1), (60, 2), (1200, 40)]:
            self.is_just(store.stock("ale", day), W(33).times(9 ** many, 10 ** many))
            self.is_just(store.stock("rum", day), W(9).times(1, 2 ** many))
            self.is_just(store.stock("gin", day), W(7, 2))

    def test_it_is_not_gone_to(self):
        store = filled()
        for day in [1200, 30, 60, None]:
            store.stock("ale", day)
            store.excess(day)
        self.is_just(store.today(), 10)
        self.assertTrue(store == filled())
        self.is_just(store.stock("ale"), W(33))

    def test_as_it_is_gone_to(self):
        for day in [10, 29, 30, 61, 1200]:
            store = filled()
            ahead = [store.stock(ware, day) for ware in WARES]
            over = store.excess(day)
            store.weigh(day, "c2", ())
            self.assertEqual([store.stock(ware) for ware in WARES], ahead)
            self.is_just(store.excess(), over)

    def test_refused(self):
        store = filled()
        for word, right in [("stock", {"ware": "ale", "day": 29}), ("excess", {"day": 29})]:
            self.days_refused(word, right, own=[None])
            for day in [9, 0]:
                self.refused(store, word, {**right, "day": day}, TooLate, day=10)
            self.refused(store, word, {**right, "day": False}, NoDay)

    def test_by_name_and_by_place(self):
        store = filled()
        for day in [10, 30, 1200]:
            due = store.stock("ale", day)
            self.is_just(store.stock(ware="ale", day=day), due)
            self.is_just(store.stock(day=day, ware="ale"), due)
            self.is_just(store.stock("ale", day=day), due)


class TestExcess(StoreCase):
    def test_where_all_are_borne(self):
        for asked in [{}, {"day": None}, {"day": 10}, {"day": 29}]:
            self.is_just(filled().excess(**asked), ())

    def test_a_later_day(self):
        store = filled()
        self.is_just(store.excess(30), ())
        self.is_just(store.excess(59), ())
        self.is_just(store.excess(60), (CY,))
        self.is_just(store.excess(90), (EVE, CY))
        self.is_just(store.excess(day=90), (EVE, CY))
        self.is_just(store.excess(1200), (EVE, CY, BO, ANN))

    def test_over_all_wares_by_age_from_behind(self):
        store = filled()
        for mark in ["c1", "c9", "ca"]:
            store.weigh(10, mark, ())
        self.is_just(store.excess(), (EVE, DEE, CY, BO, ANN))

    def test_those_that_are_not_borne_alone(self):
        for ale, due in [(0, (EVE, BO, ANN)), (11, (EVE, BO, ANN)), (12, (EVE, BO)), (19, (EVE, BO)), (20, (EVE,)),
                         (24, (EVE,)), (25, ()), (26, ())]:
            store = filled()
            store.weigh(10, "ca", (("rum", W(9)),))
            store.weigh(10, "c9", ())
            store.weigh(10, "c1", ((("ale", W(ale)),) if ale else ()) + (("gin", W(3)),))
            self.is_just(store.excess(), due)

    def test_a_younger_one_is_not_borne_though_there_were_enough_for_it_alone(self):
        store = Store()
        store.cask(0, "c0", (("ale", W(10)),))
        store.make(1, "a", "ale", 1)
        store.make(2, "b", "ale", 8)
        store.make(3, "c", "ale", 1)
        store.weigh(3, "c0", (("ale", W(5)),))
        self.is_just(store.excess(), (Note("c", "ale", 1, 3), Note("b", "ale", 8, 2)))

    def test_by_the_sums(self):
        store = crowded()
        store.weigh(10, "cb0", ())
        for day in [10, 60, 90, 300, 1200]:
            over = []
            for ware in WARES:
                notes = tuple([note for note in store.notes() if note.ware == ware])
                names = [name for name, _, borne in sums_of(notes, store.stock(ware, day)) if not borne]
                over += [note for note in notes if note.name in names]
            self.is_just(store.excess(day), tuple(reversed(by_age(tuple(over)))))


class TestPromised(StoreCase):
    def test_the_grains_together(self):
        store = filled()
        for ware, due in [("ale", 25), ("rum", 4), ("gin", 3), ("tea", 0), ("al", 0)]:
            self.is_just(store.promised(ware), due)
            self.is_just(store.promised(ware=ware), due)

    def test_behind_deeds(self):
        store = filled()
        store.part(10, "ann", (("fay", 5), ("gus", 7)))
        store.merge(10, ("fay", "bo"), "hal")
        store.lose(10, "hal", "ida")
        self.is_just(store.promised("ale"), 25)
        store.pay(10, ("ida",), 6, "joe")
        self.is_just(store.promised("ale"), 19)
        store.draw(10, "gus")
        self.is_just(store.promised("ale"), 12)
        store.send(10, "c9")
        self.is_just(store.promised("ale"), 9)
        store.fire(1200, ("c1", "ca"))
        self.is_just(store.promised("ale"), 9)


class TestFate(StoreCase):
    def test_each_of_the_seven(self):
        store = filled()
        store.part(10, "ann", (("fay", 5), ("gus", 7)))
        store.merge(10, ("fay", "bo"), "hal")
        store.pay(10, ("gus",), 6, "joe")
        store.send(10, "c9", "eve")
        store.weigh(10, "c2", (("gin", W(3)),))
        store.send(10, "c2")
        fates = {"ann": "parted", "fay": "merged", "bo": "merged", "gus": "paid", "joe": "stands", "eve": "stands",
                 "hal": "stands", "lou": "lost", "max": "drawn", "dee": "sent", "cy": "stands"}
        for name, due in fates.items():
            self.is_just(store.fate(name), due)
            self.is_just(store.fate(name=name), due)

    def test_a_name_never_given(self):
        for name in ["nix", "a", "an", "anna", "c1", "ca", "stands", "lost", "", "Ann", "ann ", "ale"]:
            self.refused(filled(), "fate", {"name": name}, NoNote, what=name)
            self.refused(Store(), "fate", {"name": name}, NoNote, what=name)

    def test_of_anything(self):
        self.of_anything("fate", {}, "name", NoNote, "what")


class TestLen(StoreCase):
    def test_how_many_notes_stand(self):
        store = filled()
        self.is_just(len(store), 5)
        self.assertIs(bool(store), True)
        for many, note in enumerate(reversed(NOTES)):
            store.draw(10, note.name)
            self.assertEqual(len(store), 4 - many)
            self.assertIs(bool(store), many < 4)

    def test_casks_are_not_counted(self):
        store = Store()
        store.cask(0, "c0", (("ale", W(1)),))
        self.is_just(len(store), 0)
        self.assertIs(bool(store), False)
        store.make(0, "ann", "ale", 1)
        self.is_just(len(store), 1)
        self.assertIs(bool(store), True)


class TestEqual(StoreCase):
    def both(self, one, other, due):
        self.assertIs(one == other, due)
        self.assertIs(other == one, due)
        self.assertIs(one != other, not due)

    def test_told_the_same(self):
        self.both(filled(), filled(), True)
        self.both(crowded(), crowded(), True)
        self.both(Store(), Store(None, 0), True)
        self.both(Store(()), Store(), True)
        self.both(Store(DRYING, 5), Store(DRYING, 5), True)
        store = filled()
        self.both(store, store, True)

    def test_come_to_in_other_ways(self):
        one, other = Store(), Store()
        for store, marks in [(one, ["c1", "c2", "c3"]), (other, ["c3", "c1", "c2"])]:
            for mark in marks:
                store.cask(0, mark, (("ale", W(9)),))
        one.make(0, "ann", "ale", 4)
        one.make(0, "bo", "ale", 5)
        other.make(0, "bo", "ale", 5)
        other.make(0, "ann", "ale", 4)
        self.both(one, other, True)
        one.weigh(29, "c1", (("ale", W(1)),))
        other.burn(15, "c1", "ale", W(8))
        self.both(one, other, False)
        other.weigh(29, "c2", (("ale", W(9)),))
        self.both(one, other, True)

    def test_the_drying_as_tuples(self):
        self.both(Store((("ale", 1, 2),)), Store((("ale", 2, 4),)), False)
        self.both(Store((("ale", 0, 2),)), Store(), False)
        self.both(Store(DRYING), Store(DRYING[:1]), False)
        self.both(Store(DRYING), Store(), False)

    def test_the_day(self):
        self.both(Store(None, 1), Store(), False)
        one, other = filled(), filled()
        one.weigh(11, "c2", ())
        self.both(one, other, False)
        other.weigh(11, "c2", ())
        self.both(one, other, True)

    def test_a_cask(self):
        for word, handed in [("weigh", ("c9", (("ale", W(4)),))), ("burn", ("c9", "ale", W(1))), ("weigh", ("c9", ())),
                             ("weigh", ("c9", (("rum", W(3)),))), ("cask", ("cab", ())), ("fire", (("c2",),))]:
            store = filled()
            getattr(store, word)(10, *handed)
            self.both(store, filled(), False)

    def test_since(self):
        one, other = Store(), Store()
        one.cask(0, "c1", ())
        one.cask(1, "c2", ())
        other.cask(1, "c1", ())
        other.cask(1, "c2", ())
        self.both(one, other, False)

    def test_a_mark_once_given(self):
        one, other = Store(), Store()
        one.cask(0, "c1", ())
        one.send(0, "c1")
        self.both(one, other, False)
        other.cask(0, "c2", ())
        other.fire(0, ("c2",))
        self.both(one, other, False)
        one.cask(0, "c2", ())
        one.send(0, "c2")
        other.cask(0, "c1", ())
        other.send(0, "c1")
        self.both(one, other, True)

    def test_a_note(self):
        for handed in [("fay", "ale", 1), ("fay", "rum", 1), ("fay", "ale", 2), ("gus", "ale", 1)]:
            one, other = filled(), filled()
            one.make(10, "fay", "ale", 1)
            other.make(10, *handed)
            self.both(one, other, handed == ("fay", "ale", 1))
            self.both(one, filled(), False)

    def test_born(self):
        one, other = filled(), filled()
        one.make(10, "fay", "ale", 1)
        one.weigh(11, "c2", ())
        other.make(11, "fay", "ale", 1)
        self.both(one, other, False)

    def test_a_fate(self):
        made = []
        for word, handed in [("draw", ("dee",)), ("pay", (("dee",), 3))]:
            store = filled()
            getattr(store, word)(10, *handed)
            store.weigh(10, "c1", (("ale", W(18)),))
            made.append(store)
        self.assertEqual([store.notes() for store in made], [made[0].notes()] * 2)
        self.assertEqual([store.casks() for store in made], [made[0].casks()] * 2)
        self.both(made[0], made[1], False)

    def test_a_name_once_given(self):
        one, other = filled(), filled()
        one.make(10, "fay", "ale", 1)
        one.pay(10, ("fay",), 1)
        self.both(one, other, False)
        other.make(10, "gus", "ale", 1)
        other.pay(10, ("gus",), 1)
        self.both(one, other, False)

    def test_other_kinds(self):
        for store in [Store(), filled()]:
            for thing in ANYTHING + [0, 5, 10, NOTES, CASKS, everything(store)]:
                self.both(store, thing, False)

    def test_in_and_count(self):
        self.assertIn(filled(), [None, filled()])
        self.assertEqual([Store(), filled(), Store()].count(Store()), 2)


class TestAskedAgain(StoreCase):
    def test_the_same_is_told_and_nothing_changes(self):
        store = filled()
        ahead = copy.deepcopy(store)
        for _ in range(3):
            self.assertEqual(everything(store), everything(ahead))
        self.assertTrue(store == ahead)

    def test_what_is_told_may_be_kept(self):
        store = filled()
        casks, notes = store.casks(), store.notes()
        store.draw(40, "ann")
        store.fire(41, ("ca",))
        self.is_just(casks, CASKS)
        self.is_just(notes, NOTES)


if __name__ == "__main__":
    unittest.main()
