"""Stores to be asked and told deeds, and what shows that a store is as it was."""

import copy
import unittest

from casknotes.casks import Cask
from casknotes.errors import NoDay, NoNote, TooLate
from casknotes.notes import Note
from casknotes.stores import Store
from casknotes.weights import Weight
from things import FORTY_NINES, ODD_TEXTS, OTHER_KINDS

W = Weight
DRYING = (("ale", 1, 10), ("rum", 1, 2))
WARES = ["ale", "gin", "rum", "tea"]
# Names that filled stores gave or may give, and texts that are none of theirs.
NAMES = ["ann", "bo", "cy", "dee", "lou", "eve", "max", "fay", "gus", "hal", "nix", "ale", "c", "ca", "cab", "c1", ""]
LETTERS = "abcdefghijklmnopqrstuvwxyz"
# Of anything, but for ordinary texts and whole numbers from 0 on.
ANYTHING = OTHER_KINDS + ODD_TEXTS + [-1, -FORTY_NINES]


def filled():
    """A store at day 10: 33 ale, 7/2 gin, 9 rum stand; lou was lost, max drawn, c7 sent."""
    store = Store(DRYING, 5)
    store.cask(5, "c1", (("ale", W(20)), ("gin", W(7, 2))))
    store.cask(6, "ca", (("ale", W(12)), ("rum", W(9))))
    store.cask(6, "c9", (("ale", W(3)),))
    store.cask(6, "c2", ())
    store.cask(6, "c7", ())
    store.make(7, "ann", "ale", 12)
    store.make(8, "bo", "ale", 8)
    store.make(8, "cy", "rum", 4)
    store.make(9, "dee", "gin", 3)
    store.make(9, "lou", "ale", 5)
    store.lose(9, "lou", "eve")
    store.make(10, "max", "ale", 2)
    store.draw(10, "max")
    store.send(10, "c7")
    return store


CASKS = (Cask("c1", 5, (("ale", W(18)), ("gin", W(7, 2)))), Cask("c2", 6), Cask("c9", 6, (("ale", W(3)),)),
         Cask("ca", 6, (("ale", W(12)), ("rum", W(9)))))
NOTES = (Note("ann", "ale", 12, 7), Note("bo", "ale", 8, 8), Note("cy", "rum", 4, 8), Note("dee", "gin", 3, 9),
         Note("eve", "ale", 5, 9))


def crowded():
    """The same store, full: twelve casks stand, twenty-four names are given."""
    store = filled()
    for at in range(8):
        store.cask(10, "cb" + str(at), (("tea", W(5)),))
    for letter in LETTERS[:17]:
        store.make(10, "x" + letter, "tea", 1)
    return store


def everything(store):
    """All that a store tells."""
    days = [None, store.today(), min(store.today() + 30, 1200), 1200]
    return (store.today(), store.casks(), store.notes(), len(store), bool(store),
            [store.stock(ware, day) for ware in WARES for day in days], [store.excess(day) for day in days],
            [store.promised(ware) for ware in WARES],
            [fate_of(store, name) for name in NAMES + [note.name for note in store.notes()]])


def fate_of(store, name):
    try:
        return store.fate(name)
    except NoNote:
        return None


class StoreCase(unittest.TestCase):
    def is_just(self, told, due):
        """It is what is due, of just its classes at any depth."""
        self.assertEqual(told, due)
        self.same_kinds(told, due)

    def same_kinds(self, told, due):
        self.assertIs(told.__class__, due.__class__)
        if isinstance(due, tuple):
            for one, other in zip(told, due):
                self.same_kinds(one, other)
        if isinstance(due, (Note, Cask, Weight)):
            for name in vars(due):
                self.same_kinds(getattr(told, name), getattr(due, name))

    def refused(self, store, word, handed, error, **fields):
        """Asked so, a store refuses with just this error, and stays as it was."""
        with self.subTest(word=word, error=error.__name__, handed=repr(handed)[:120]):
            ahead, told, args = copy.deepcopy(store), everything(store), copy.deepcopy(handed)
            with self.assertRaises(error) as caught:
                getattr(store, word)(**handed)
            self.assertIs(caught.exception.__class__, error)
            for name, due in fields.items():
                self.is_just(getattr(caught.exception, name), due)
            self.assertTrue(store == ahead)
            self.assertEqual(everything(store), told)
            self.assertEqual(handed, args)

    def in_order(self, make, word, right, rows):
        """Each refusal, (what is otherwise, error, its fields), alone, and ahead of each one behind it."""
        for at, (changes, error, fields) in enumerate(rows):
            self.refused(make(), word, {**right, **changes}, error, **fields)
            for others, _, _ in rows[at + 1:]:
                self.refused(make(), word, {**right, **others, **changes}, error, **fields)

    def of_anything(self, word, right, name, error, field=None, right_ones=()):
        """Whatever is handed in under this name is refused so, but for the right ones."""
        store = filled()
        ahead = copy.deepcopy(store)
        for thing in ANYTHING:
            if any([thing == one and thing.__class__ is one.__class__ for one in right_ones]):
                continue
            with self.subTest(word=word, name=name, thing=repr(thing)[:60]):
                with self.assertRaises(error) as caught:
                    getattr(store, word)(**{**right, name: thing})
                self.assertIs(caught.exception.__class__, error)
                if field is not None:
                    self.assertIs(getattr(caught.exception, field), thing)
        self.assertTrue(store == ahead)
        self.assertEqual(everything(store), everything(ahead))

    def days_refused(self, word, right, own=()):
        """NoDay of anything, TooLate of earlier days, ahead of whatever else is handed in."""
        self.of_anything(word, right, "day", NoDay, right_ones=own)
        for handed in [right, {name: None for name in right}]:
            for day in [-1, -30, 1201, 1230, FORTY_NINES, "10", "", True]:
                self.refused(filled(), word, {**handed, "day": day}, NoDay)
            for day in [0, 1, 5, 9]:
                self.refused(filled(), word, {**handed, "day": day}, TooLate, day=10)

    def tells(self, store, word, handed, due):
        """By its names on a copy, by their places on the store a deed tells this, and leaves both alike."""
        like = copy.deepcopy(store)
        args = copy.deepcopy(handed)
        backwards = {name: handed[name] for name in reversed(list(handed))}
        self.is_just(getattr(like, word)(**backwards), due)
        self.is_just(getattr(store, word)(*handed.values()), due)
        self.assertTrue(store == like)
        self.assertEqual(handed, args)
        self.assertEqual(store.today(), handed["day"])
