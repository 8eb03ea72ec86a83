"""Promises 15 to 18: the deeds done to a store's notes, and casks that are sent or burn."""

import itertools
import unittest

from casknotes.casks import Cask
from casknotes.errors import Full, LostNote, NoGrains, NoMark, NoName, NoNote, NoSum, NotBorne, Short, Twice
from casknotes.notes import Note
from casknotes.shares import shares_holds
from casknotes.stores import Store
from casknotes.takings import taking_holds
from casknotes.weights import Weight, total
from storing import ANYTHING, CASKS, LETTERS, NOTES, StoreCase, crowded, everything, filled
from things import FORTY_NINES

W = Weight
C1, C2, C9, CA = CASKS
ANN, BO, CY, DEE, EVE = NOTES
LOST = ({"name": "lou"}, LostNote, {"what": "lou"})
UNKNOWN = ({"name": "nix"}, NoNote, {"what": "nix"})
DRAWN = ({"name": "max"}, NoNote, {"what": "max"})


def nearly_full(free):
    """A filled store that may give so many more names."""
    store = filled()
    store.cask(10, "cb0", (("tea", W(40)),))
    for letter in LETTERS[:17 - free]:
        store.make(10, "x" + letter, "tea", 1)
    return store


class NoteCase(StoreCase):
    def stands(self, store, *notes):
        self.is_just(store.notes(), notes)
        for note in notes:
            self.assertEqual(store.fate(note.name), "stands")

    def gone(self, store, fate, *names):
        """These notes went by this fate and are told no more."""
        error = LostNote if fate == "lost" else NoNote
        for name in names:
            self.is_just(store.fate(name), fate)
            self.refused(store, "draw", {"day": store.today(), "name": name}, error, what=name)
            self.assertNotIn(name, [note.name for note in store.notes()])


class TestMake(NoteCase):
    RIGHT = {"day": 29, "name": "fay", "ware": "ale", "grains": 8}

    def test_a_note_is_made_out_born_that_day(self):
        for day in [10, 29]:
            store = filled()
            self.tells(store, "make", {"day": day, "name": "fay", "ware": "ale", "grains": 5}, None)
            self.stands(store, *NOTES, Note("fay", "ale", 5, day))
            self.is_just(store.casks(), CASKS)

    def test_just_borne_and_a_grain_more(self):
        for ware, grains in [("ale", 8), ("rum", 5)]:
            store = filled()
            self.refused(store, "make", {"day": 10, "name": "fay", "ware": ware, "grains": grains + 1}, NotBorne, lacks=W(1))
            self.tells(store, "make", {"day": 10, "name": "fay", "ware": ware, "grains": grains}, None)
            self.refused(store, "make", {"day": 10, "name": "gus", "ware": ware, "grains": 1}, NotBorne, lacks=W(1))

    def test_what_lacks_is_no_whole_number(self):
        store = filled()
        self.refused(store, "make", {"day": 10, "name": "fay", "ware": "gin", "grains": 1}, NotBorne, lacks=W(1, 2))
        self.refused(store, "make", {"day": 10, "name": "fay", "ware": "gin", "grains": 9}, NotBorne, lacks=W(17, 2))
        self.refused(store, "make", {"day": 10, "name": "fay", "ware": "tea", "grains": FORTY_NINES}, NotBorne,
                     lacks=W(FORTY_NINES))

    def test_what_turns_is_dried_ahead(self):
        store = filled()
        self.refused(store, "make", {"day": 30, "name": "fay", "ware": "ale", "grains": 5}, NotBorne, lacks=W(3, 10))
        self.refused(store, "make", {"day": 60, "name": "fay", "ware": "ale", "grains": 2}, NotBorne, lacks=W(27, 100))
        self.tells(store, "make", {"day": 30, "name": "fay", "ware": "ale", "grains": 4}, None)
        self.stands(store, *NOTES, Note("fay", "ale", 4, 30))

    def test_where_notes_are_too_many_what_lacks_is_all_of_it(self):
        store = filled()
        self.refused(store, "make", {"day": 90, "name": "fay", "ware": "ale", "grains": 1}, NotBorne,
                     lacks=W(26).less(W(33).times(729, 1000)))

    def test_refused(self):
        rows = [({"name": "Fay"}, NoName, {}), ({"ware": "gin "}, NoName, {}), ({"grains": 0}, NoGrains, {}),
                ({"name": "ann"}, Twice, {"what": "ann"})]
        self.in_order(filled, "make", self.RIGHT, rows + [({"grains": 9}, NotBorne, {"lacks": W(1)})])
        self.in_order(crowded, "make", self.RIGHT, rows + [({}, Full, {})])
        self.refused(crowded(), "make", {**self.RIGHT, "grains": 9}, Full)

    def test_refused_of_anything(self):
        self.of_anything("make", self.RIGHT, "name", NoName)
        self.of_anything("make", self.RIGHT, "ware", NoName)
        self.of_anything("make", self.RIGHT, "grains", NoGrains)
        self.days_refused("make", self.RIGHT)

    def test_twenty_four_names(self):
        store = Store()
        store.cask(0, "c0", (("ale", W(100)),))
        for letter in LETTERS[:24]:
            self.tells(store, "make", {"day": 0, "name": letter, "ware": "ale", "grains": 1}, None)
        self.refused(store, "make", {"day": 0, "name": "y", "ware": "ale", "grains": 1}, Full)
        store.draw(0, "a")
        store.pay(0, ("b", "c"), 2)
        self.refused(store, "make", {"day": 0, "name": "y", "ware": "ale", "grains": 1}, Full)
        self.assertEqual(len(store), 21)


class TestPart(NoteCase):
    RIGHT = {"day": 29, "name": "ann", "pieces": (("fay", 5), ("gus", 7))}

    def test_in_its_stead_come_these(self):
        for day in [10, 29, 45]:
            store = filled()
            self.tells(store, "part", {**self.RIGHT, "day": day}, None)
            self.stands(store, Note("fay", "ale", 5, 7), Note("gus", "ale", 7, 7), *NOTES[1:])
            self.gone(store, "parted", "ann")
            self.is_just(store.promised("ale"), 25)

    def test_in_more_pieces(self):
        store = filled()
        self.tells(store, "part", {"day": 10, "name": "eve", "pieces": tuple([(name, 1) for name in ["w", "z", "v", "y", "x"]])},
                   None)
        self.stands(store, *NOTES[:4], *[Note(name, "ale", 1, 9) for name in "vwxyz"])

    def test_pieces_parted_on(self):
        store = filled()
        self.tells(store, "part", {"day": 40, "name": "cy", "pieces": (("a", 1), ("b", 3))}, None)
        self.tells(store, "part", {"day": 50, "name": "b", "pieces": (("d", 2), ("c", 1))}, None)
        self.stands(store, ANN, Note("a", "rum", 1, 8), BO, Note("c", "rum", 1, 8), Note("d", "rum", 2, 8), DEE, EVE)
        self.gone(store, "parted", "cy", "b")

    def test_too_few_and_too_many_grains(self):
        for pieces in [(("fay", 5), ("gus", 6)), (("fay", 5), ("gus", 8)), (("fay", 12), ("gus", 12)), (("fay", 1), ("gus", 1)),
                       (("fay", 4), ("gus", 4), ("hal", 5)), (("fay", 12), ("gus", FORTY_NINES))]:
            self.refused(filled(), "part", {**self.RIGHT, "pieces": pieces}, NoSum)

    def test_a_name_twice(self):
        self.refused(filled(), "part", {**self.RIGHT, "pieces": (("fay", 5), ("fay", 7))}, Twice, what="fay")
        self.refused(filled(), "part", {**self.RIGHT, "pieces": (("fay", 5), ("gus", 6), ("fay", 1))}, Twice, what="fay")
        for name in ["ann", "bo", "lou", "max"]:
            self.refused(filled(), "part", {**self.RIGHT, "pieces": ((name, 5), ("gus", 7))}, Twice, what=name)
            self.refused(filled(), "part", {**self.RIGHT, "pieces": (("gus", 5), (name, 7))}, Twice, what=name)

    def test_refused(self):
        rows = [LOST, ({"pieces": (("Fay", 5), ("gus", 7))}, NoName, {}), ({"pieces": (("fay", 0), ("gus", 12))}, NoGrains, {}),
                ({"pieces": (("bo", 5), ("gus", 7))}, Twice, {"what": "bo"}), ({"pieces": (("fay", 5), ("gus", 8))}, NoSum, {})]
        for first in [LOST, UNKNOWN, DRAWN]:
            self.in_order(filled, "part", self.RIGHT, [first] + rows[1:])
            self.in_order(crowded, "part", self.RIGHT, [first] + rows[1:] + [({}, Full, {})])

    def test_piece_by_piece(self):
        faults = [("Fay", 5, NoName), ("fay", 0, NoGrains), ("bo", 5, Twice), ("FAY", 0, NoName), ("bo", 0, NoGrains)]
        for name, grains, error in faults:
            for other, more, _ in [("gus", 7, None)] + faults:
                self.refused(filled(), "part", {**self.RIGHT, "pieces": ((name, grains), (other, more))}, error)
                self.refused(filled(), "part", {**self.RIGHT, "pieces": (("hal", 1), (name, grains), (other, more))}, error)
                self.refused(crowded(), "part", {**self.RIGHT, "pieces": ((name, grains), (other, more))}, error)

    def test_twice_among_the_pieces_ahead_of_what_is_due_behind(self):
        for other in [("Hal", 1), ("hal", 0), ("bo", 1)]:
            self.refused(filled(), "part", {**self.RIGHT, "pieces": (("fay", 1), ("fay", 2), other)}, Twice, what="fay")
        self.refused(filled(), "part", {**self.RIGHT, "pieces": (("fay", 1), ("Hal", 2), ("fay", 9))}, NoName)
        self.refused(filled(), "part", {**self.RIGHT, "pieces": (("fay", 1), ("fay", 0))}, NoGrains)

    def test_refused_of_anything(self):
        self.of_anything("part", self.RIGHT, "name", NoNote, "what")
        self.days_refused("part", self.RIGHT)
        store = filled()
        ahead = everything(store)
        for thing in ANYTHING:
            for at in [0, 1]:
                for error, piece in [(NoName, (thing, 5)), (NoGrains, ("fay", thing)), (NoName, (thing, thing))]:
                    pieces = [("gus", 7), ("gus", 7)]
                    pieces[at] = piece
                    with self.subTest(error=error.__name__, thing=repr(thing)[:60], at=at):
                        with self.assertRaises(error) as caught:
                            store.part(29, "ann", tuple(pieces))
                        self.assertIs(caught.exception.__class__, error)
        self.assertEqual(everything(store), ahead)

    def test_full(self):
        for free in [2, 3]:
            self.tells(nearly_full(free), "part", self.RIGHT, None)
        for free in [0, 1]:
            self.refused(nearly_full(free), "part", self.RIGHT, Full)
        three = (("fay", 5), ("gus", 5), ("hal", 2))
        self.tells(nearly_full(3), "part", {**self.RIGHT, "pieces": three}, None)
        self.refused(nearly_full(2), "part", {**self.RIGHT, "pieces": three}, Full)


class TestMerge(NoteCase):
    RIGHT = {"day": 29, "names": ("ann", "bo"), "fresh": "fay"}

    def test_in_their_stead_comes_one(self):
        for day in [10, 29, 45]:
            store = filled()
            self.tells(store, "merge", {**self.RIGHT, "day": day}, None)
            self.stands(store, CY, Note("fay", "ale", 20, 8), DEE, EVE)
            self.gone(store, "merged", "ann", "bo")

    def test_born_as_the_youngest_in_any_order(self):
        for names in itertools.permutations(["ann", "bo", "eve"]):
            store = filled()
            self.tells(store, "merge", {"day": 10, "names": names, "fresh": "fay"}, None)
            self.stands(store, CY, DEE, Note("fay", "ale", 25, 9))
        for names, born in [(("ann", "eve"), 9), (("eve", "ann"), 9), (("bo", "ann"), 8)]:
            store = filled()
            self.tells(store, "merge", {"day": 10, "names": names, "fresh": "fay"}, None)
            self.assertEqual([note.born for note in store.notes() if note.name == "fay"], [born])

    def test_wares_unlike(self):
        for names in itertools.chain(itertools.permutations(["ann", "cy"]), itertools.permutations(["ann", "bo", "dee"]),
                                     itertools.permutations(["cy", "dee"])):
            self.refused(filled(), "merge", {**self.RIGHT, "names": names}, NoSum)

    def test_each_told_note_in_order(self):
        for names, error, what in [(("lou", "nix"), LostNote, "lou"), (("nix", "lou"), NoNote, "nix"),
                                   (("ann", "nix", "lou"), NoNote, "nix"), (("cy", "ann", "lou"), LostNote, "lou"),
                                   (("ann", "max"), NoNote, "max"), (("dee", "max", "nix"), NoNote, "max")]:
            self.refused(filled(), "merge", {**self.RIGHT, "names": names}, error, what=what)

    def test_refused(self):
        rows = [({"names": ("ann", "lou")}, LostNote, {"what": "lou"}), ({"names": ("ann", "cy")}, NoSum, {}),
                ({"fresh": "Fay"}, NoName, {}), ({"fresh": "eve"}, Twice, {"what": "eve"})]
        self.in_order(filled, "merge", self.RIGHT, rows)
        self.in_order(filled, "merge", self.RIGHT, [({"names": ("nix", "ann")}, NoNote, {"what": "nix"})] + rows[1:])
        self.in_order(crowded, "merge", self.RIGHT, rows + [({}, Full, {})])
        for name in ["ann", "bo", "cy", "lou", "max"]:
            self.refused(filled(), "merge", {**self.RIGHT, "fresh": name}, Twice, what=name)

    def test_refused_of_anything(self):
        self.of_anything("merge", self.RIGHT, "fresh", NoName)
        self.days_refused("merge", self.RIGHT)
        store = filled()
        ahead = everything(store)
        for thing in ANYTHING:
            for names in [(thing, "ann"), ("ann", thing), ("ann", "bo", thing), (thing, "lou")]:
                with self.subTest(thing=repr(thing)[:60]):
                    with self.assertRaises(NoNote) as caught:
                        store.merge(29, names, "fay")
                    self.assertIs(caught.exception.__class__, NoNote)
                    self.assertIs(caught.exception.what, thing)
        self.assertEqual(everything(store), ahead)

    def test_full(self):
        self.tells(nearly_full(1), "merge", self.RIGHT, None)
        self.refused(nearly_full(0), "merge", self.RIGHT, Full)


class TestLose(NoteCase):
    RIGHT = {"day": 29, "name": "ann", "fresh": "fay"}

    def test_in_its_stead_comes_one_like_it(self):
        for day in [10, 29, 45]:
            store = filled()
            self.tells(store, "lose", {**self.RIGHT, "day": day}, None)
            self.stands(store, Note("fay", "ale", 12, 7), *NOTES[1:])
            self.gone(store, "lost", "ann", "lou")

    def test_a_lost_one_is_told_so_by_each_deed(self):
        store = filled()
        store.lose(10, "ann", "fay")
        store.lose(10, "fay", "gus")
        for name in ["ann", "fay", "lou"]:
            for word, handed in [("draw", {"name": name}), ("lose", {"name": name, "fresh": "hal"}),
                                 ("part", {"name": name, "pieces": (("v", 5), ("w", 7))}),
                                 ("merge", {"names": ("gus", name), "fresh": "hal"}), ("send", {"mark": "c9", "first": name}),
                                 ("pay", {"names": (name,), "due": 1, "change": "hal"})]:
                self.refused(store, word, {"day": 10, **handed}, LostNote, what=name)
        self.stands(store, Note("gus", "ale", 12, 7), *NOTES[1:])

    def test_refused(self):
        for first in [LOST, UNKNOWN, DRAWN]:
            rows = [first, ({"fresh": "Fay"}, NoName, {}), ({"fresh": "bo"}, Twice, {"what": "bo"})]
            self.in_order(filled, "lose", self.RIGHT, rows)
            self.in_order(crowded, "lose", self.RIGHT, rows + [({}, Full, {})])
        for name in ["ann", "lou", "max"]:
            self.refused(filled(), "lose", {**self.RIGHT, "fresh": name}, Twice, what=name)

    def test_refused_of_anything(self):
        self.of_anything("lose", self.RIGHT, "name", NoNote, "what")
        self.of_anything("lose", self.RIGHT, "fresh", NoName)
        self.days_refused("lose", self.RIGHT)

    def test_full(self):
        self.tells(nearly_full(1), "lose", self.RIGHT, None)
        self.refused(nearly_full(0), "lose", self.RIGHT, Full)


class TestDraw(NoteCase):
    RIGHT = {"day": 29, "name": "ann"}

    def test_its_grains_are_taken(self):
        for day in [10, 29]:
            store = filled()
            self.tells(store, "draw", {"day": day, "name": "ann"}, (("c1", W(12)),))
            self.is_just(store.casks(), (Cask("c1", 5, (("ale", W(6)), ("gin", W(7, 2)))), C2, C9, CA))
            self.stands(store, *NOTES[1:])
            self.gone(store, "drawn", "ann", "max")

    def test_from_several_casks_the_eldest_ahead(self):
        store = filled()
        store.merge(10, ("ann", "bo"), "fay")
        casks = store.casks()
        taken = (("c1", W(18)), ("c9", W(2)))
        self.assertTrue(taking_holds(casks, "ale", 20, taken))
        self.tells(store, "draw", {"day": 10, "name": "fay"}, taken)
        self.is_just(store.casks(), (Cask("c1", 5, (("gin", W(7, 2)),)), C2, Cask("c9", 6, (("ale", W(1)),)), CA))
        self.tells(store, "draw", {"day": 10, "name": "eve"}, (("c9", W(1)), ("ca", W(4))))
        self.is_just(store.casks(), (Cask("c1", 5, (("gin", W(7, 2)),)), C2, Cask("c9", 6),
                                     Cask("ca", 6, (("ale", W(8)), ("rum", W(9))))))

    def test_a_cask_left_without_parts_stays(self):
        store = filled()
        store.weigh(10, "c1", (("ale", W(12)),))
        self.tells(store, "draw", {"day": 10, "name": "ann"}, (("c1", W(12)),))
        self.is_just(store.casks(), (Cask("c1", 5), C2, C9, CA))

    def test_what_turns_is_dried_ahead(self):
        store = filled()
        self.refused(store, "draw", {"day": 60, "name": "cy"}, Short, lacks=W(7, 4))
        self.tells(store, "draw", {"day": 30, "name": "cy"}, (("ca", W(4)),))
        self.is_just(store.casks()[3], Cask("ca", 6, (("ale", W(54, 5)), ("rum", W(1, 2)))))

    def test_it_may_be_drawn_though_elder_ones_are_then_not_borne(self):
        store = filled()
        store.weigh(10, "c1", ())
        store.weigh(10, "ca", ())
        store.weigh(10, "c9", (("ale", W(5)),))
        self.tells(store, "draw", {"day": 10, "name": "eve"}, (("c9", W(5)),))
        self.is_just(store.excess(), (DEE, CY, BO, ANN))

    def test_short(self):
        store = filled()
        store.weigh(10, "c1", ())
        store.weigh(10, "ca", (("ale", W(1, 2)),))
        self.refused(store, "draw", {"day": 29, "name": "ann"}, Short, lacks=W(17, 2))
        self.refused(store, "draw", {"day": 29, "name": "dee"}, Short, lacks=W(3))
        self.refused(store, "draw", {"day": 29, "name": "lou"}, LostNote, what="lou")

    def test_refused(self):
        for first in [LOST, UNKNOWN, DRAWN]:
            self.in_order(filled, "draw", self.RIGHT, [first])
            self.in_order(crowded, "draw", self.RIGHT, [first])
        self.of_anything("draw", self.RIGHT, "name", NoNote, "what")
        self.days_refused("draw", self.RIGHT)

    def test_no_note_draws_twice(self):
        store = filled()
        for note in NOTES:
            taken = store.draw(10, note.name)
            self.assertEqual(total(tuple([weight for _, weight in taken])), W(note.grains))
            self.gone(store, "drawn", note.name)
        self.is_just(store.notes(), ())


class TestSend(NoteCase):
    RIGHT = {"day": 29, "mark": "c9", "first": None}

    def test_it_falls_by_age(self):
        for day in [10, 29]:
            for first in [{}, {"first": None}]:
                store = filled()
                self.tells(store, "send", {"day": day, "mark": "c9", **first}, (("ann", 3),))
                self.is_just(store.casks(), (C1, C2, CA))
                self.stands(store, Note("ann", "ale", 9, 7), *NOTES[1:])

    def test_each_all_it_has_or_what_is_left(self):
        store = filled()
        store.weigh(10, "c9", (("ale", W(23)),))
        self.tells(store, "send", {"day": 10, "mark": "c9"}, (("ann", 12), ("bo", 8), ("eve", 3)))
        self.stands(store, CY, DEE, Note("eve", "ale", 2, 9))
        self.gone(store, "sent", "ann", "bo")

    def test_all_gone(self):
        store = filled()
        store.weigh(10, "c9", (("ale", W(25)),))
        self.tells(store, "send", {"day": 10, "mark": "c9"}, (("ann", 12), ("bo", 8), ("eve", 5)))
        self.stands(store, CY, DEE)
        self.gone(store, "sent", "ann", "bo", "eve")

    def test_to_the_one_called_first(self):
        for first, ale, due in [("bo", 3, (("bo", 3),)), ("eve", 5, (("eve", 5),)), ("eve", 9, (("eve", 5), ("ann", 4))),
                                ("bo", 21, (("bo", 8), ("ann", 12), ("eve", 1))), ("ann", 13, (("ann", 12), ("bo", 1)))]:
            store = filled()
            store.weigh(10, "c9", (("ale", W(ale)),))
            self.tells(store, "send", {"day": 10, "mark": "c9", "first": first}, due)
            fallen = dict(due)
            left = [Note(note.name, note.ware, note.grains - fallen.get(note.name, 0), note.born) for note in NOTES
                    if note.grains > fallen.get(note.name, 0)]
            self.stands(store, *left)

    def test_first_of_another_ware(self):
        for first in ["cy", "dee"]:
            store = filled()
            self.tells(store, "send", {"day": 10, "mark": "c9", "first": first}, (("ann", 3),))
            self.stands(store, Note("ann", "ale", 9, 7), *NOTES[1:])

    def test_of_several_parts_in_their_order(self):
        store = filled()
        store.weigh(10, "ca", (("ale", W(13)), ("gin", W(2)), ("rum", W(4))))
        self.tells(store, "send", {"day": 10, "mark": "ca", "first": "cy"}, (("ann", 12), ("bo", 1), ("dee", 2), ("cy", 4)))
        self.stands(store, Note("bo", "ale", 7, 8), Note("dee", "gin", 1, 9), EVE)
        self.gone(store, "sent", "ann", "cy")
        self.is_just(store.casks(), (C1, C2, C9))

    def test_first_is_first_for_its_own_ware_alone(self):
        store = filled()
        store.weigh(10, "ca", (("ale", W(7)), ("gin", W(2)), ("rum", W(4))))
        self.tells(store, "send", {"day": 10, "mark": "ca", "first": "eve"}, (("eve", 5), ("ann", 2), ("dee", 2), ("cy", 4)))

    def test_a_part_that_is_not_whole(self):
        for weight, due in [(W(1, 10 ** 12), (("ann", 1),)), (W(5, 2), (("ann", 3),)), (W(12), (("ann", 12),)),
                            (W(12 * 10 ** 12 + 1, 10 ** 12), (("ann", 12), ("bo", 1))), (W(49, 2), (("ann", 12), ("bo", 8), ("eve", 5)))]:
            store = filled()
            store.weigh(10, "c9", (("ale", weight),))
            self.tells(store, "send", {"day": 10, "mark": "c9"}, due)
        self.refused(filled(), "send", {**self.RIGHT, "mark": "c1"}, NotBorne, lacks=W(1))

    def test_what_turns_is_dried_ahead(self):
        store = filled()
        self.tells(store, "send", {"day": 30, "mark": "c9"}, (("ann", 3),))
        store = filled()
        self.tells(store, "send", {"day": 60, "mark": "c9"}, (("ann", 3),))
        store = filled()
        self.tells(store, "send", {"day": 120, "mark": "c9"}, (("ann", 2),))

    def test_a_cask_without_parts(self):
        store = filled()
        self.tells(store, "send", {"day": 10, "mark": "c2"}, ())
        self.is_just(store.casks(), (C1, C9, CA))
        self.stands(store, *NOTES)
        self.tells(store, "send", {"day": 10, "mark": "c9", "first": "bo"}, (("bo", 3),))

    def test_too_few_grains(self):
        store = filled()
        store.weigh(10, "c9", (("ale", W(51, 2)), ("gin", W(10)), ("tea", W(1, 2))))
        self.refused(store, "send", {"day": 29, "mark": "c9"}, NotBorne, lacks=W(1))
        store.weigh(10, "c9", (("ale", W(25)), ("gin", W(10)), ("tea", W(1, 2))))
        self.refused(store, "send", {"day": 29, "mark": "c9", "first": "dee"}, NotBorne, lacks=W(7))
        store.weigh(10, "c9", (("ale", W(25)), ("gin", W(3)), ("tea", W(1, 2))))
        self.refused(store, "send", {"day": 29, "mark": "c9"}, NotBorne, lacks=W(1))
        store.weigh(10, "c9", (("tea", W(FORTY_NINES, 2)),))
        self.refused(store, "send", {"day": 29, "mark": "c9"}, NotBorne, lacks=W((FORTY_NINES + 1) // 2))

    def test_refused(self):
        for first in [({"first": "lou"}, LostNote, {"what": "lou"}), ({"first": "nix"}, NoNote, {"what": "nix"}),
                      ({"first": "max"}, NoNote, {"what": "max"})]:
            rows = [({"mark": "cff"}, NoMark, {"what": "cff"}), first, ({"mark": "ca"}, NotBorne, {"lacks": W(5)})]
            self.in_order(filled, "send", self.RIGHT, rows)
            self.in_order(crowded, "send", self.RIGHT, rows)
        self.refused(filled(), "send", {"day": 29, "mark": "c7"}, NoMark, what="c7")
        self.refused(filled(), "send", {"day": 29, "mark": "ca"}, NotBorne, lacks=W(5))

    def test_refused_of_anything(self):
        self.of_anything("send", self.RIGHT, "mark", NoMark, "what")
        self.of_anything("send", self.RIGHT, "first", NoNote, "what", right_ones=[None])
        self.of_anything("send", {**self.RIGHT, "mark": "c2"}, "first", NoNote, "what", right_ones=[None])
        self.days_refused("send", self.RIGHT)

    def test_a_note_that_has_some_left_stands_and_may_be_drawn(self):
        store = filled()
        store.send(10, "c9", "bo")
        self.stands(store, ANN, Note("bo", "ale", 5, 8), CY, DEE, EVE)
        self.tells(store, "draw", {"day": 10, "name": "bo"}, (("c1", W(5)),))


class TestPay(NoteCase):
    RIGHT = {"day": 29, "names": ("ann", "bo"), "due": 15, "change": "fay"}

    def test_just_what_is_due(self):
        for day in [10, 29, 45]:
            for change in [{}, {"change": None}, {"change": "fay"}]:
                store = filled()
                self.tells(store, "pay", {"day": day, "names": ("ann", "bo"), "due": 20, **change}, None)
                self.stands(store, CY, DEE, EVE)
                self.gone(store, "paid", "ann", "bo")
                self.refused(store, "fate", {"name": "fay"}, NoNote, what="fay")

    def test_change_is_not_looked_at_where_it_is_just_due(self):
        for make in [filled, crowded]:
            for change in ANYTHING + ["ann", "bo", "lou", "Fay", 0, 7]:
                with self.subTest(change=repr(change)[:60]):
                    store = make() if change == "bo" else filled()
                    self.assertIs(store.pay(10, ("ann", "bo"), 20, change), None)
                    self.assertIs(store.pay(10, ("cy",), 4, change=change), None)
        store = crowded()
        self.tells(store, "pay", {"day": 10, "names": ("ann",), "due": 12, "change": "fay"}, None)

    def test_more_than_due(self):
        for day in [10, 29, 45]:
            for due in [1, 15, 19]:
                store = filled()
                self.tells(store, "pay", {**self.RIGHT, "day": day, "due": due}, Note("fay", "ale", 20 - due, 8))
                self.stands(store, CY, Note("fay", "ale", 20 - due, 8), DEE, EVE)
                self.gone(store, "paid", "ann", "bo")

    def test_change_is_born_as_the_youngest_that_paid(self):
        for names, born in [(("ann", "eve"), 9), (("eve", "ann"), 9), (("bo", "ann"), 8), (("ann",), 7), (("eve",), 9)]:
            store = filled()
            grains = sum([note.grains for note in NOTES if note.name in names])
            self.tells(store, "pay", {"day": 40, "names": names, "due": 1, "change": "fay"}, Note("fay", "ale", grains - 1, born))

    def test_one_note(self):
        store = filled()
        self.tells(store, "pay", {"day": 10, "names": ("cy",), "due": 3, "change": "fay"}, Note("fay", "rum", 1, 8))
        self.tells(store, "pay", {"day": 10, "names": ("fay",), "due": 1}, None)
        self.gone(store, "paid", "cy", "fay")
        self.is_just(store.promised("rum"), 0)
        self.is_just(store.stock("rum"), W(9))

    def test_less_than_due(self):
        for names, due in [(("ann", "bo"), 21), (("ann",), 13), (("eve",), FORTY_NINES), (("cy",), 5)]:
            self.refused(filled(), "pay", {**self.RIGHT, "names": names, "due": due}, NoSum)
            self.refused(filled(), "pay", {"day": 10, "names": names, "due": due}, NoSum)

    def test_wares_unlike(self):
        for names in itertools.chain(itertools.permutations(["ann", "cy"]), itertools.permutations(["ann", "bo", "dee"])):
            for due in [1, 16, 23, 20, 99]:
                self.refused(filled(), "pay", {**self.RIGHT, "names": names, "due": due}, NoSum)

    def test_refused(self):
        rows = [({"due": 0}, NoGrains, {}), ({"names": ("ann", "lou", "nix")}, LostNote, {"what": "lou"}),
                ({"names": ("ann", "cy")}, NoSum, {}), ({"due": 21}, NoSum, {}), ({"change": "Fay"}, NoName, {}),
                ({"change": "eve"}, Twice, {"what": "eve"})]
        self.in_order(filled, "pay", self.RIGHT, rows)
        self.in_order(filled, "pay", self.RIGHT, rows[:1] + [({"names": ("nix", "lou")}, NoNote, {"what": "nix"})] + rows[2:])
        self.in_order(crowded, "pay", self.RIGHT, rows + [({}, Full, {})])
        for name in ["ann", "bo", "cy", "lou", "max"]:
            self.refused(filled(), "pay", {**self.RIGHT, "change": name}, Twice, what=name)
        self.refused(filled(), "pay", {"day": 29, "names": ("ann", "bo"), "due": 15}, NoName)

    def test_refused_of_anything(self):
        self.of_anything("pay", self.RIGHT, "due", NoGrains)
        self.of_anything("pay", self.RIGHT, "change", NoName)
        self.days_refused("pay", self.RIGHT)
        store = filled()
        ahead = everything(store)
        for thing in ANYTHING:
            for names in [(thing,), (thing, "ann"), ("ann", thing), ("ann", "cy", thing), (thing, "lou")]:
                with self.subTest(thing=repr(thing)[:60]):
                    with self.assertRaises(NoNote) as caught:
                        store.pay(29, names, 15, "fay")
                    self.assertIs(caught.exception.__class__, NoNote)
                    self.assertIs(caught.exception.what, thing)
        self.assertEqual(everything(store), ahead)

    def test_full(self):
        self.tells(nearly_full(1), "pay", self.RIGHT, Note("fay", "ale", 5, 8))
        self.refused(nearly_full(0), "pay", self.RIGHT, Full)

    def test_great_grains(self):
        store = Store()
        store.cask(0, "c0", (("ale", W(2 * FORTY_NINES)),))
        store.make(0, "ann", "ale", FORTY_NINES)
        store.make(1, "bo", "ale", FORTY_NINES)
        self.tells(store, "pay", {"day": 2, "names": ("ann", "bo"), "due": FORTY_NINES - 1, "change": "cy"},
                   Note("cy", "ale", FORTY_NINES + 1, 1))


class TestFire(NoteCase):
    RIGHT = {"day": 29, "marks": ("c1", "ca")}

    def test_one_cask(self):
        for day in [10, 29]:
            store = filled()
            due = (("ale", (("ann", W(12, 11)), ("bo", W(8, 11)), ("eve", W(5, 11)), (None, W(8, 11)))),)
            self.tells(store, "fire", {"day": day, "marks": ("c9",)}, due)
            self.is_just(store.casks(), (C1, C2, CA))
            self.stands(store, *NOTES)

    def test_of_several_wares_rising(self):
        store = filled()
        ale = W(12)
        due = (("ale", tuple([(name, ale.times(grains, 33)) for name, grains in [("ann", 12), ("bo", 8), ("eve", 5), (None, 8)]])),
               ("rum", (("cy", W(4)), (None, W(5)))))
        self.tells(store, "fire", {"day": 10, "marks": ("ca",)}, due)
        self.is_just(store.casks(), (C1, C2, C9))

    def test_several_casks(self):
        for marks in [("c1", "ca"), ("ca", "c1"), ("c2", "ca", "c1")]:
            store = filled()
            ale = tuple([(name, W(30).times(grains, 33)) for name, grains in [("ann", 12), ("bo", 8), ("eve", 5), (None, 8)]])
            due = (("ale", ale), ("gin", (("dee", W(3)), (None, W(1, 2)))), ("rum", (("cy", W(4)), (None, W(5)))))
            self.tells(store, "fire", {"day": 10, "marks": marks}, due)
            self.stands(store, *NOTES)

    def test_all_casks(self):
        store = filled()
        stock = {ware: store.stock(ware) for ware in ["ale", "gin", "rum"]}
        told = store.fire(10, ("ca", "c2", "c9", "c1"))
        self.assertEqual([ware for ware, _ in told], ["ale", "gin", "rum"])
        for ware, shares in told:
            notes = tuple([note for note in NOTES if note.ware == ware])
            self.assertTrue(shares_holds(stock[ware], stock[ware], notes, shares))
        self.is_just(store.casks(), ())
        self.is_just(store.excess(), tuple(reversed(NOTES)))

    def test_where_notes_are_more_than_the_stock(self):
        store = filled()
        store.weigh(10, "c1", ())
        store.weigh(10, "c2", (("tea", W(7, 2)),))
        self.tells(store, "fire", {"day": 10, "marks": ("c9", "c2")},
                   (("ale", (("ann", W(36, 25)), ("bo", W(24, 25)), ("eve", W(3, 5)))), ("tea", ((None, W(7, 2)),))))

    def test_a_cask_without_parts(self):
        store = filled()
        self.tells(store, "fire", {"day": 10, "marks": ("c2",)}, ())
        self.is_just(store.casks(), (C1, C9, CA))

    def test_what_turns_is_dried_ahead(self):
        store = filled()
        loss, stock = W(27, 10), W(33).times(9, 10)
        whole = stock
        rows = [(name, loss.times(grains * whole.bottom, whole.top)) for name, grains in [("ann", 12), ("bo", 8), ("eve", 5)]]
        rest = loss.less(total(tuple([weight for _, weight in rows])))
        self.tells(store, "fire", {"day": 30, "marks": ("c9",)}, (("ale", tuple(rows) + ((None, rest),)),))

    def test_each_sums_to_what_burned(self):
        for many in range(1, 5):
            for casks in itertools.combinations(CASKS, many):
                told = filled().fire(10, tuple([cask.mark for cask in casks]))
                burned = {}
                for cask in casks:
                    for ware, weight in cask.parts:
                        burned[ware] = burned.get(ware, W(0)).plus(weight)
                self.assertEqual([ware for ware, _ in told], sorted(burned))
                for ware, shares in told:
                    self.assertEqual(total(tuple([weight for _, weight in shares])), burned[ware])

    def test_refused(self):
        for marks, what in [(("cff",), "cff"), (("c1", "cff"), "cff"), (("c7", "cff"), "c7"), (("c1", "ca", "c7"), "c7"),
                            (("ann",), "ann")]:
            self.refused(filled(), "fire", {"day": 29, "marks": marks}, NoMark, what=what)
        self.days_refused("fire", self.RIGHT)
        store = filled()
        ahead = everything(store)
        for thing in ANYTHING:
            for marks in [(thing,), ("c1", thing), (thing, "c1"), (thing, "cff")]:
                with self.subTest(thing=repr(thing)[:60]):
                    with self.assertRaises(NoMark) as caught:
                        store.fire(29, marks)
                    self.assertIs(caught.exception.__class__, NoMark)
                    self.assertIs(caught.exception.what, thing)
        self.assertEqual(everything(store), ahead)


if __name__ == "__main__":
    unittest.main()
