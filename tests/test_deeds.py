"""Promise 22: what a deed is, of anything, and a deed done to a store."""

import copy
import unittest

from casknotes.deeds import done, is_deed
from casknotes.errors import (CaskError, Full, LostNote, NoDay, NoMark, NoName, NoNote, NoSum, NotBorne, NoWare, Short,
                              TooLate, Twice)
from casknotes.notes import Note
from casknotes.stores import Store
from casknotes.weights import Weight
from deeding import DEEDS, FORMS, is_such
from storing import StoreCase, crowded, everything, filled
from things import FORTY_NINES, ODD_TEXTS, OTHER_KINDS, great_weight, nested, spoiled

W = Weight
ALE = (("ale", W(1)),)


class TestIsDeed(unittest.TestCase):
    def judged(self, thing, due):
        with self.subTest(thing=repr(thing)[:120]):
            self.assertIs(is_deed(thing), due)

    def test_right_ones(self):
        self.assertEqual({deed[0] for deed in DEEDS}, set(FORMS))
        for deed in DEEDS:
            self.judged(deed, True)

    def test_each_thing_otherwise_in_turn(self):
        small = {deed[0]: deed for deed in DEEDS if len(repr(deed)) < 70}
        self.assertEqual(len(small), 11)
        seen = {True: 0, False: 0}
        for deed in small.values():
            for thing in spoiled(deed):
                due = is_such(thing)
                seen[due] += 1
                self.judged(thing, due)
        self.assertGreater(min(seen.values()), 5)

    def test_another_word(self):
        words = list(FORMS) + ["", "Cask", "casks", "cask ", "told", "join", "today", "stock", "fate", "c1", "ann"]
        for deed in DEEDS:
            for word in words:
                self.judged((word,) + deed[1:], is_such((word,) + deed[1:]))
            for word in OTHER_KINDS + ODD_TEXTS + [0, 1, (deed[0],), [deed[0]]]:
                self.judged((word,) + deed[1:], False)

    def test_a_part_less_or_more(self):
        for deed in DEEDS:
            for at in range(len(deed)):
                self.judged(deed[:at] + deed[at + 1:], False)
                self.judged(deed[:at] + (deed[at],) + deed[at:], False)
            for more in [None, (), "fay", 0, 1, W(1), ("fay",)]:
                self.judged(deed + (more,), False)
        for word in FORMS:
            self.judged((word,), False)
            self.judged(word, False)
        self.judged((), False)

    def test_default_values_are_told(self):
        for deed in [("send", "c1"), ("pay", ("ann",), 3), ("cask", "c1"), ("cask", "c1", None), ("weigh", "c1", None)]:
            self.judged(deed, False)

    def test_lists_and_dicts_for_tuples(self):
        for deed in DEEDS:
            self.judged(list(deed), False)
            self.judged({at: part for at, part in enumerate(deed)}, False)
            for at, part in enumerate(deed):
                if isinstance(part, tuple):
                    for thing in [list(part), {one: True for one in range(len(part))}]:
                        self.judged(deed[:at] + (thing,) + deed[at + 1:], False)
        for thing in [("cask", "c1", (["ale", W(1)],)), ("part", "ann", (["fay", 1], ("gus", 2))),
                      ("part", "ann", (("fay", 1), ["gus", 2])), ("part", "ann", {"fay": 1, "gus": 2})]:
            self.judged(thing, False)

    def test_parts(self):
        for word in ["cask", "weigh"]:
            for parts, due in [((), True), (ALE, True), (ALE + (("rum", W(1)),), True), ((("rum", W(1)),) + ALE, False),
                               (ALE + ALE, False), ((("ale", W(0)),), False), ((("ale", 1),), False),
                               ((("ale", True),), False), ((("Ale", W(1)),), False), (("ale", W(1)), False),
                               (tuple([(name, W(1)) for name in "abcd"]), True),
                               (tuple([(name, W(1)) for name in "abcde"]), False)]:
                self.judged((word, "c1", parts), due)

    def test_weights(self):
        for weight, due in [(W(1), True), (W(1, 10 ** 12), True), (great_weight(), True), (W(0), False), (1, False),
                            (True, False), ("1", False), (None, False), ((1, 1), False)]:
            self.judged(("burn", "c1", "ale", weight), due)

    def test_grains(self):
        for grains, due in [(1, True), (10 ** 12, True), (FORTY_NINES, True), (0, False), (-1, False), (True, False),
                            (False, False), (W(1), False), ("1", False), (None, False)]:
            self.judged(("make", "ann", "ale", grains), due)
            self.judged(("pay", ("ann",), grains, None), due)
            self.judged(("part", "ann", (("fay", 1), ("gus", grains))), due)
            self.judged(("part", "ann", (("fay", grains), ("gus", 1))), due)

    def test_names_and_marks_of_several(self):
        for names, most in [((), 0), (("ann",), 1), (("ann", "bo"), 2), (("bo", "ann"), 2), (("ann", "ann"), 0),
                            (("ann", "bo", "ann"), 0), (("ann", "Bo"), 0), (("ann", None), 0), ("ann", 0), ("a", 0),
                            (["ann", "bo"], 0), (("ann", ""), 0), (("ann", "c1"), 0), ((("ann", "bo"),), 0)]:
            self.judged(("merge", names, "fay"), most == 2)
            self.judged(("pay", names, 3, "fay"), most > 0)
        for marks, due in [((), False), (("c1",), True), (("c2", "c1"), True), (("c1", "c1"), False), ("c1", False),
                           (("c1", "c01"), False), (("c1", "ann"), False), (["c1"], False), (("c1", None), False)]:
            self.judged(("fire", marks), due)

    def test_pieces(self):
        for pieces, due in [((("fay", 1), ("gus", 2)), True), ((("fay", 1),), False), ((), False),
                            ((("fay", 1), ("fay", 2)), False), ((("fay", 1), ("gus", 2), ("fay", 3)), False),
                            ((("fay", 1), ("gus",)), False), ((("fay", 1), ("gus", 2, 3)), False),
                            ((("fay", 1), "gus"), False), ((("fay", 1), ("c1", 2)), False), ((1, 2), False),
                            ((("fay", 1), (1, "gus")), False), ("ab", False), (("ab", "cd"), False)]:
            self.judged(("part", "ann", pieces), due)

    def test_first_change_fresh(self):
        for name, right, none in [("fay", True, True), ("ann", True, True), (None, False, True), ("", False, False),
                                  ("-", False, False), ("c1", False, False), (False, False, False), (0, False, False),
                                  ((), False, False), ("None", False, False), (("fay",), False, False)]:
            self.judged(("send", "c1", name), right or none)
            self.judged(("pay", ("ann",), 3, name), right or none)
            self.judged(("lose", "ann", name), right)
            self.judged(("merge", ("ann", "bo"), name), right)
            self.judged(("draw", name), right)
            self.judged(("part", name, (("fay", 1), ("gus", 2))), right)
            self.judged(("part", "ann", ((name, 1), ("gus", 2))), right)

    def test_what_the_deed_tells_elsewhere(self):
        for deed in [("part", "ann", (("ann", 1), ("bo", 2))), ("merge", ("ann", "bo"), "ann"), ("lose", "ann", "ann"),
                     ("pay", ("ann", "bo"), 3, "bo"), ("make", "ale", "ale", 1)]:
            self.judged(deed, True)

    def test_other_kinds_and_deep_ones(self):
        for thing in OTHER_KINDS + ODD_TEXTS + [0, 1, -1, FORTY_NINES]:
            self.judged(thing, False)
            self.judged((thing,), False)
            for deed in DEEDS[:1] + DEEDS[-3:]:
                for at in range(len(deed)):
                    changed = deed[:at] + (thing,) + deed[at + 1:]
                    self.judged(changed, is_such(changed))
        for deed in DEEDS:
            for kind in [tuple, list, dict]:
                for many in [1, 2, 26]:
                    self.judged(nested(deed, kind, many), False)

    def test_what_is_handed_in_stays(self):
        for thing in [["cask", "c1", []], ("part", "ann", [["fay", 1]]), {"cask": ["c1"]}]:
            ahead = copy.deepcopy(thing)
            is_deed(thing)
            self.assertEqual(thing, ahead)

    def test_by_name_and_by_place(self):
        self.assertIs(is_deed(thing=("draw", "ann")), True)
        self.assertIs(is_deed(thing=("draw",)), False)


# Deeds of each form that can be done in the filled store on day 10, and what they tell.
RIGHT = [
    (("cask", "c3", ALE), None), (("cask", "c3", ()), None), (("weigh", "c1", ALE), None), (("weigh", "c9", ()), None),
    (("burn", "c1", "gin", W(7, 2)), None), (("burn", "ca", "rum", W(1, 2)), None), (("make", "fay", "ale", 8), None),
    (("part", "ann", (("fay", 5), ("gus", 7))), None), (("merge", ("ann", "bo"), "fay"), None),
    (("lose", "ann", "fay"), None), (("draw", "ann"), (("c1", W(12)),)),
    (("send", "c2", None), ()), (("send", "c9", None), (("ann", 3),)), (("send", "c9", "eve"), (("eve", 3),)),
    (("pay", ("ann",), 12, None), None), (("pay", ("ann", "bo"), 13, "fay"), Note("fay", "ale", 7, 8)),
    (("fire", ("c2", "c9")), (("ale", (("ann", W(12, 11)), ("bo", W(8, 11)), ("eve", W(5, 11)), (None, W(8, 11)))),)),
]

# Deeds that are refused there: the class, its fields.
REFUSED = [
    (("cask", "c1", ()), Twice, {"what": "c1"}), (("weigh", "c3", ()), NoMark, {"what": "c3"}),
    (("burn", "c3", "ale", W(1)), NoMark, {"what": "c3"}), (("burn", "c2", "ale", W(1)), NoWare, {"ware": "ale"}),
    (("burn", "c9", "ale", W(4)), Short, {"lacks": W(1)}), (("make", "max", "ale", 1), Twice, {"what": "max"}),
    (("make", "fay", "ale", 9), NotBorne, {"lacks": W(1)}), (("part", "fay", (("a", 1), ("b", 2))), NoNote, {"what": "fay"}),
    (("part", "ann", (("a", 1), ("b", 2))), NoSum, {}), (("part", "ann", (("ann", 1), ("b", 2))), Twice, {"what": "ann"}),
    (("merge", ("ann", "lou"), "fay"), LostNote, {"what": "lou"}), (("merge", ("ann", "cy"), "fay"), NoSum, {}),
    (("lose", "max", "fay"), NoNote, {"what": "max"}), (("draw", "lou"), LostNote, {"what": "lou"}),
    (("send", "c7", None), NoMark, {"what": "c7"}), (("send", "c1", "fay"), NoNote, {"what": "fay"}),
    (("send", "ca", None), NotBorne, {"lacks": W(5)}), (("pay", ("ann", "fay"), 13, None), NoNote, {"what": "fay"}),
    (("pay", ("ann",), 13, None), NoSum, {}), (("pay", ("ann",), 11, None), NoName, {}),
    (("pay", ("ann",), 11, "bo"), Twice, {"what": "bo"}), (("fire", ("c1", "c7")), NoMark, {"what": "c7"}),
]


class TestDone(StoreCase):
    def is_done(self, store, day, deed):
        """It tells just what its method does to another store, and leaves an equal store."""
        like, other, handed = copy.deepcopy(store), copy.deepcopy(store), copy.deepcopy(deed)
        told = done(store, day, deed)
        self.is_just(told, getattr(like, deed[0])(day, *deed[1:]))
        self.is_just(done(deed=deed, day=day, store=other), told)
        self.assertTrue(store == like and store == other)
        self.assertEqual(everything(store), everything(like))
        self.assertEqual(deed, handed)
        return told

    def is_refused(self, store, day, deed, error, fields):
        """As its method is refused; the store stays as it was."""
        with self.subTest(deed=deed, day=day):
            ahead, told = copy.deepcopy(store), everything(store)
            for ask in [lambda: done(store, day, deed), lambda: done(store=store, day=day, deed=deed),
                        lambda: getattr(store, deed[0])(day, *deed[1:])]:
                with self.assertRaises(error) as caught:
                    ask()
                self.assertIs(caught.exception.__class__, error)
                for name, due in fields.items():
                    self.is_just(getattr(caught.exception, name), due)
            self.assertTrue(store == ahead)
            self.assertEqual(everything(store), told)

    def test_each_of_the_eleven(self):
        self.assertEqual({deed[0] for deed, _ in RIGHT}, set(FORMS))
        for deed, due in RIGHT:
            with self.subTest(deed=deed):
                store = filled()
                self.is_just(self.is_done(store, 10, deed), due)
                self.assertFalse(store == filled())
                for day in [11, 30, 61, 1200]:
                    try:
                        getattr(filled(), deed[0])(day, *deed[1:])
                    except CaskError as error:
                        self.is_refused(filled(), day, deed, error.__class__, vars(error))
                    else:
                        self.is_done(filled(), day, deed)

    def test_each_refused(self):
        self.assertEqual({deed[0] for deed, _, _ in REFUSED}, set(FORMS))
        for deed, error, fields in REFUSED:
            self.is_refused(filled(), 10, deed, error, fields)

    def test_days(self):
        for deed, _ in RIGHT:
            for day in [0, 9]:
                self.is_refused(filled(), day, deed, TooLate, {"day": 10})
            for day in [-1, 1201, None, True, "10", (10,)]:
                self.is_refused(filled(), day, deed, NoDay, {})

    def test_full(self):
        for deed in [("cask", "c3", ()), ("make", "fay", "ale", 1), ("lose", "ann", "fay"),
                     ("merge", ("ann", "bo"), "fay"), ("part", "ann", (("fay", 5), ("gus", 7))),
                     ("pay", ("ann",), 3, "fay")]:
            self.is_refused(crowded(), 10, deed, Full, {})

    def test_one_behind_the_other(self):
        store, like = Store(), Store()
        for day, deed in [(0, ("cask", "c1", (("ale", W(20)),))), (1, ("make", "ann", "ale", 20)),
                          (2, ("pay", ("ann",), 5, "bo")), (3, ("draw", "bo")), (3, ("fire", ("c1",)))]:
            self.is_done(store, day, deed)
            getattr(like, deed[0])(day, *deed[1:])
            self.assertTrue(store == like)
        self.is_just(store.fate("bo"), "drawn")


if __name__ == "__main__":
    unittest.main()
