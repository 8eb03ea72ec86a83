"""Promises 13 and 14: a store's days, marks and names, and the deeds done to its casks."""

import copy
import unittest

from casknotes.casks import Cask
from casknotes.errors import Full, NoMark, NoName, NotBorne, NoWare, NoWeight, Short, TooLate, Twice
from casknotes.notes import Note
from casknotes.stores import Store
from casknotes.weights import Weight
from storing import CASKS, DRYING, NOTES, StoreCase, crowded, everything, filled
from things import FORTY_NINES, great_weight

W = Weight
ALE = (("ale", W(1)),)
_, C2, C9, CA = CASKS


class TestFresh(StoreCase):
    def test_at_first_nothing_stands(self):
        for store in [Store(), Store(None), Store(()), Store(DRYING), Store(drying=None, day=0), Store(day=0)]:
            self.is_just(store.today(), 0)
            self.is_just(store.casks(), ())
            self.is_just(store.notes(), ())

    def test_its_day(self):
        for day in [0, 1, 29, 30, 1200]:
            self.is_just(Store(DRYING, day).today(), day)
            self.is_just(Store(day=day, drying=DRYING).today(), day)
            self.is_just(Store(None, day=day).today(), day)

    def test_the_filled_one(self):
        store = filled()
        self.is_just(store.today(), 10)
        self.is_just(store.casks(), CASKS)
        self.is_just(store.notes(), NOTES)
        self.assertEqual(len(crowded().casks()), 12)
        self.assertEqual(len(crowded().notes()), 22)


class TestDays(StoreCase):
    def test_what_turns_till_then_is_dried_ahead(self):
        for day, many in [(10, 0), (29, 0), (30, 1), (31, 1), (59, 1), (60, 2), (95, 3), (1200, 40)]:
            store = filled()
            store.weigh(day, "c2", ())
            self.is_just(store.today(), day)
            share = (9 ** many, 10 ** many)
            rum = W(9).times(1, 2 ** many)
            self.is_just(store.casks(), (
                Cask("c1", 5, (("ale", W(18).times(*share)), ("gin", W(7, 2)))), C2,
                Cask("c9", 6, (("ale", W(3).times(*share)),)),
                Cask("ca", 6, (("ale", W(12).times(*share)), ("rum", rum)))))

    def test_in_one_step_and_in_several(self):
        for days in [[1200], [30, 60, 1200], list(range(11, 1201)), [29, 30, 31, 59, 60, 61, 1199, 1200], [600, 1200]]:
            store = filled()
            for day in days:
                store.weigh(day, "c2", ())
            late = filled()
            late.weigh(1200, "c2", ())
            self.assertTrue(store == late)
            self.assertEqual(everything(store), everything(late))

    def test_a_day_that_turns_is_not_dried_twice(self):
        store = filled()
        for _ in range(3):
            store.weigh(30, "c2", ())
        self.is_just(store.casks()[2], Cask("c9", 6, (("ale", W(27, 10)),)))
        store.weigh(59, "c2", ())
        self.is_just(store.casks()[2], Cask("c9", 6, (("ale", W(27, 10)),)))

    def test_a_store_begun_on_a_day_that_turns(self):
        store = Store(DRYING, 30)
        store.cask(30, "c1", ALE)
        self.is_just(store.casks(), (Cask("c1", 30, ALE),))
        store.cask(59, "c2", ())
        self.is_just(store.stock("ale"), W(1))
        store.cask(60, "c3", ())
        self.is_just(store.stock("ale"), W(9, 10))

    def test_day_0_does_not_turn(self):
        store = Store(DRYING)
        store.cask(0, "c1", ALE)
        store.cask(29, "c2", ())
        self.is_just(store.stock("ale"), W(1))

    def test_without_a_drying(self):
        for store in [Store(), Store(()), Store(None)]:
            store.cask(0, "c1", ALE)
            store.weigh(1200, "c1", ALE)
            store.cask(1200, "c2", ALE)
            self.is_just(store.stock("ale"), W(2))

    def test_a_deed_that_is_refused_leaves_the_day(self):
        store = filled()
        for day in [11, 30, 1200]:
            with self.assertRaises(NoMark):
                store.weigh(day, "cff", ())
            self.is_just(store.today(), 10)
            self.is_just(store.casks(), CASKS)

    def test_each_deed_leaves_the_store_at_its_day(self):
        deeds = [("cask", ("cab", ALE)), ("weigh", ("c1", ALE)), ("burn", ("c1", "ale", W(1))), ("make", ("fay", "ale", 1)),
                 ("part", ("ann", (("fay", 5), ("gus", 7)))), ("merge", (("ann", "bo"), "fay")), ("lose", ("ann", "fay")),
                 ("draw", ("ann",)), ("send", ("c9",)), ("pay", (("ann",), 12)), ("fire", (("c1",),))]
        for word, handed in deeds:
            for day in [10, 11, 29, 31, 45]:
                with self.subTest(word=word, day=day):
                    store = filled()
                    getattr(store, word)(day, *handed)
                    self.is_just(store.today(), day)
                    with self.assertRaises(TooLate) as caught:
                        store.weigh(day - 1, "c2", ())
                    self.is_just(caught.exception.day, day)
                    if day > 30 and word != "send":
                        self.is_just([cask for cask in store.casks() if cask.mark == "c9"][0],
                                     Cask("c9", 6, (("ale", W(27, 10)),)))


class TestGivenOnce(StoreCase):
    def test_a_mark_that_stands_or_is_gone(self):
        store = filled()
        store.fire(10, ("ca",))
        for mark in ["c1", "c2", "c7", "c9", "ca"]:
            self.refused(store, "cask", {"day": 10, "mark": mark, "parts": ALE}, Twice, what=mark)
            self.refused(store, "cask", {"day": 1200, "mark": mark, "parts": ()}, Twice, what=mark)

    def test_a_name_that_stands_or_is_gone(self):
        store = filled()
        store.merge(10, ("ann", "bo"), "fay")
        store.part(10, "dee", (("gus", 1), ("hal", 2)))
        store.pay(10, ("gus",), 1)
        for name in ["ann", "bo", "cy", "dee", "eve", "fay", "gus", "hal", "lou", "max"]:
            self.refused(store, "make", {"day": 10, "name": name, "ware": "ale", "grains": 1}, Twice, what=name)
            self.refused(store, "lose", {"day": 10, "name": "cy", "fresh": name}, Twice, what=name)

    def test_the_same_text_as_a_mark_and_as_a_name(self):
        store = filled()
        store.make(10, "ca", "ale", 1)
        store.make(10, "cab", "ale", 1)
        store.cask(10, "cab", ALE)
        store.cask(10, "cbad", ())
        store.make(10, "cbad", "ale", 1)
        self.assertEqual([store.fate(name) for name in ["ca", "cab", "cbad"]], ["stands"] * 3)
        self.refused(store, "cask", {"day": 10, "mark": "cab", "parts": ()}, Twice, what="cab")
        self.refused(store, "make", {"day": 10, "name": "cab", "ware": "ale", "grains": 1}, Twice, what="cab")

    def test_what_was_refused_was_not_given(self):
        store = filled()
        self.refused(store, "make", {"day": 10, "name": "fay", "ware": "tea", "grains": 1}, NotBorne, lacks=W(1))
        self.refused(store, "cask", {"day": 10, "mark": "cab", "parts": None}, NoWeight)
        store.cask(10, "cab", ())
        store.make(10, "fay", "ale", 1)

    def test_in_another_store_it_may_be_given(self):
        filled()
        store = Store()
        store.cask(0, "c1", (("ale", W(20)),))
        store.make(0, "ann", "ale", 12)
        self.is_just(store.notes(), (Note("ann", "ale", 12),))


class TestCask(StoreCase):
    RIGHT = {"day": 29, "mark": "cab", "parts": ALE}

    def test_it_comes_in(self):
        for day in [10, 29]:
            store = filled()
            self.tells(store, "cask", {"day": day, "mark": "cab", "parts": (("ale", W(1, 3)), ("tea", W(5)))}, None)
            self.is_just(store.casks(), CASKS + (Cask("cab", day, (("ale", W(1, 3)), ("tea", W(5)))),))
            self.is_just(store.notes(), NOTES)

    def test_by_age(self):
        store = Store()
        for mark in ["c10", "ca", "c9", "c1f", "c0"]:
            store.cask(0, mark, ())
        store.cask(1, "c2", ())
        self.assertEqual([cask.mark for cask in store.casks()], ["c0", "c9", "ca", "c10", "c1f", "c2"])

    def test_without_parts_and_with_four(self):
        store = Store(DRYING)
        self.tells(store, "cask", {"day": 0, "mark": "c0", "parts": ()}, None)
        parts = (("ale", W(1)), ("gin", W(10 ** 12)), ("rum", W(1, 10 ** 12)), ("tea", W(FORTY_NINES)))
        self.tells(store, "cask", {"day": 0, "mark": "cffffff", "parts": parts}, None)
        self.is_just(store.casks(), (Cask("c0", 0), Cask("cffffff", 0, parts)))

    def test_on_a_day_that_turns_it_does_not_dry(self):
        store = filled()
        self.tells(store, "cask", {"day": 60, "mark": "cab", "parts": ALE}, None)
        self.is_just(store.casks()[-1], Cask("cab", 60, ALE))
        self.is_just(store.casks()[2], Cask("c9", 6, (("ale", W(243, 100)),)))
        self.tells(store, "cask", {"day": 90, "mark": "cac", "parts": ()}, None)
        self.is_just(store.casks()[-2], Cask("cab", 60, (("ale", W(9, 10)),)))

    def test_refused(self):
        rows = [({"mark": "ann"}, NoName, {}), ({"parts": None}, NoWeight, {}), ({"mark": "c1"}, Twice, {"what": "c1"})]
        self.in_order(filled, "cask", self.RIGHT, rows)
        self.in_order(crowded, "cask", self.RIGHT, rows + [({}, Full, {})])
        self.in_order(filled, "cask", self.RIGHT, [({"mark": "c01"}, NoName, {}), ({"parts": [("ale", W(1))]}, NoWeight, {}),
                                                   ({"mark": "c7"}, Twice, {"what": "c7"})])

    def test_refused_of_anything(self):
        self.of_anything("cask", self.RIGHT, "mark", NoName)
        self.of_anything("cask", self.RIGHT, "parts", NoWeight, right_ones=[(), (("ale", W(1)),)])
        self.days_refused("cask", self.RIGHT)

    def test_no_parts(self):
        for parts in [None, (("ale", W(0)),), (("ale", W(1)), ("ale", W(1))), (("rum", W(1)), ("ale", W(1))), (("ale", 1),),
                      tuple([(ware, W(1)) for ware in "abcde"]), [], [("ale", W(1))], (["ale", W(1)],)]:
            self.refused(filled(), "cask", {**self.RIGHT, "parts": parts}, NoWeight)
            self.refused(filled(), "weigh", {"day": 29, "mark": "c1", "parts": parts}, NoWeight)

    def test_twelve_casks(self):
        store = Store()
        for at in range(12):
            self.tells(store, "cask", {"day": at, "mark": "c" + "0123456789ab"[at], "parts": ALE}, None)
        self.assertEqual(len(store.casks()), 12)
        self.refused(store, "cask", {"day": 11, "mark": "cff", "parts": ()}, Full)
        store.fire(11, ("c0",))
        self.tells(store, "cask", {"day": 11, "mark": "cff", "parts": ()}, None)
        self.refused(store, "cask", {"day": 11, "mark": "cfe", "parts": ()}, Full)
        self.refused(store, "cask", {"day": 11, "mark": "c0", "parts": ()}, Twice, what="c0")

    def test_more_than_twelve_marks_may_be_given(self):
        store = Store()
        for at in range(40):
            store.cask(at, "c1" + "0123456789abcdef"[at // 16] + "0123456789abcdef"[at % 16], ())
            store.send(at, store.casks()[0].mark)
        self.is_just(store.casks(), ())
        self.refused(store, "cask", {"day": 39, "mark": "c100", "parts": ()}, Twice, what="c100")


class TestWeigh(StoreCase):
    RIGHT = {"day": 29, "mark": "c1", "parts": ALE}

    def test_it_has_these_parts_from_now_on(self):
        for day in [10, 29]:
            store = filled()
            self.tells(store, "weigh", {"day": day, "mark": "c1", "parts": (("rum", W(9, 4)), ("tea", W(50)))}, None)
            self.is_just(store.casks(), (Cask("c1", 5, (("rum", W(9, 4)), ("tea", W(50)))), C2, C9, CA))
            self.is_just(store.notes(), NOTES)

    def test_to_nothing_and_of_nothing(self):
        store = filled()
        self.tells(store, "weigh", {"day": 10, "mark": "c1", "parts": ()}, None)
        self.is_just(store.casks(), (Cask("c1", 5), C2, C9, CA))
        self.tells(store, "weigh", {"day": 10, "mark": "c2", "parts": ALE}, None)
        self.is_just(store.casks(), (Cask("c1", 5), Cask("c2", 6, ALE), C9, CA))

    def test_on_a_day_that_turns_what_is_weighed_does_not_dry(self):
        store = filled()
        self.tells(store, "weigh", {"day": 30, "mark": "c9", "parts": (("ale", W(100)),)}, None)
        self.is_just(store.casks()[2], Cask("c9", 6, (("ale", W(100)),)))
        self.is_just(store.casks()[3], Cask("ca", 6, (("ale", W(54, 5)), ("rum", W(9, 2)))))
        self.is_just(store.stock("ale", 60), W(90).plus(W(30).times(81, 100)))

    def test_notes_stay_even_where_they_are_not_borne(self):
        store = filled()
        for mark in ["c1", "c9", "ca"]:
            self.tells(store, "weigh", {"day": 10, "mark": mark, "parts": ()}, None)
        self.is_just(store.notes(), NOTES)
        self.is_just(store.excess(), tuple(reversed(NOTES)))

    def test_refused(self):
        self.in_order(filled, "weigh", self.RIGHT, [({"mark": "cff"}, NoMark, {"what": "cff"}), ({"parts": None}, NoWeight, {})])
        self.in_order(crowded, "weigh", self.RIGHT, [({"mark": "c7"}, NoMark, {"what": "c7"}), ({"parts": []}, NoWeight, {})])
        self.refused(filled(), "weigh", {**self.RIGHT, "mark": "ann"}, NoMark, what="ann")

    def test_refused_of_anything(self):
        self.of_anything("weigh", self.RIGHT, "mark", NoMark, "what")
        self.of_anything("weigh", self.RIGHT, "parts", NoWeight, right_ones=[(), (("ale", W(1)),)])
        self.days_refused("weigh", self.RIGHT)


class TestBurn(StoreCase):
    RIGHT = {"day": 29, "mark": "c1", "ware": "ale", "weight": W(1)}

    def test_so_much_is_burned(self):
        for day in [10, 29]:
            store = filled()
            self.tells(store, "burn", {"day": day, "mark": "c1", "ware": "ale", "weight": W(7, 3)}, None)
            self.is_just(store.casks(), (Cask("c1", 5, (("ale", W(47, 3)), ("gin", W(7, 2)))), C2, C9, CA))
            self.is_just(store.notes(), NOTES)

    def test_all_of_it(self):
        store = filled()
        self.tells(store, "burn", {"day": 10, "mark": "c1", "ware": "gin", "weight": W(7, 2)}, None)
        self.tells(store, "burn", {"day": 10, "mark": "c9", "ware": "ale", "weight": W(3)}, None)
        self.is_just(store.casks(), (Cask("c1", 5, (("ale", W(18)),)), C2, Cask("c9", 6), CA))

    def test_what_turns_is_dried_ahead(self):
        store = filled()
        self.refused(store, "burn", {"day": 30, "mark": "c9", "ware": "ale", "weight": W(3)}, Short, lacks=W(3, 10))
        self.tells(store, "burn", {"day": 30, "mark": "c9", "ware": "ale", "weight": W(27, 10)}, None)
        self.is_just(store.casks()[2], Cask("c9", 6))

    def test_refused(self):
        rows = [({"mark": "cff"}, NoMark, {"what": "cff"}), ({"weight": W(0)}, NoWeight, {}),
                ({"ware": "tea"}, NoWare, {"ware": "tea"}), ({"weight": W(19)}, Short, {"lacks": W(1)})]
        self.in_order(filled, "burn", self.RIGHT, rows)
        self.in_order(crowded, "burn", self.RIGHT, rows)
        self.refused(filled(), "burn", {**self.RIGHT, "mark": "c2"}, NoWare, ware="ale")
        self.refused(filled(), "burn", {**self.RIGHT, "mark": "c9", "weight": W(10 ** 12)}, Short, lacks=W(10 ** 12 - 3))

    def test_refused_of_anything(self):
        self.of_anything("burn", self.RIGHT, "mark", NoMark, "what")
        self.of_anything("burn", self.RIGHT, "weight", NoWeight, right_ones=[W(1), W(7, 2), great_weight()])
        self.of_anything("burn", self.RIGHT, "ware", NoWare, "ware")
        self.days_refused("burn", self.RIGHT)

    def test_great_weights(self):
        great = great_weight()
        store = filled()
        self.tells(store, "weigh", {"day": 10, "mark": "c2", "parts": (("ale", great.plus(W(1, 3))),)}, None)
        self.tells(store, "burn", {"day": 10, "mark": "c2", "ware": "ale", "weight": great}, None)
        self.is_just(store.casks()[1], Cask("c2", 6, (("ale", W(1, 3)),)))
        self.refused(store, "burn", {"day": 10, "mark": "c2", "ware": "ale", "weight": great}, Short, lacks=great.less(W(1, 3)))


class TestOwn(StoreCase):
    def test_what_is_handed_in_stays_and_is_the_askers_own(self):
        parts = (("ale", W(7, 2)),)
        store = Store()
        store.cask(0, "c1", parts)
        store.weigh(0, "c1", parts)
        self.assertEqual(parts, (("ale", W(7, 2)),))
        parts[0][1].top = 9
        self.is_just(store.stock("ale"), W(7, 2))

    def test_what_is_told_is_the_askers_own(self):
        store = filled()
        ahead = copy.deepcopy(store)
        for cask in store.casks():
            for _, weight in cask.parts:
                weight.top = 77
            cask.parts = ()
            cask.mark = "cff"
        for note in store.notes() + store.excess(1200):
            note.grains = 77
            note.name = "zed"
        store.stock("ale").top = 77
        self.assertTrue(store == ahead)
        self.assertEqual(everything(store), everything(ahead))

    def test_what_deeds_tell_is_the_askers_own(self):
        store = filled()
        taken = store.draw(10, "ann")
        change = store.pay(10, ("bo",), 3, "fay")
        shares = store.fire(10, ("c9",))
        ahead = copy.deepcopy(store)
        for _, weight in taken + shares[0][1]:
            weight.top = 77
        change.grains = 77
        self.assertTrue(store == ahead)
        self.assertEqual(everything(store), everything(ahead))

    def test_two_stores_share_nothing(self):
        one, other = filled(), filled()
        self.assertTrue(one == other)
        ahead = everything(other)
        one.draw(40, "ann")
        one.cask(41, "cab", ALE)
        one.merge(42, ("bo", "eve"), "fay")
        self.assertEqual(everything(other), ahead)
        self.assertFalse(one == other)
        self.assertTrue(other == filled())


if __name__ == "__main__":
    unittest.main()
