"""Long rows of deeds by chance, done to a store and to the model side by side."""

import copy
import random
from fractions import Fraction

from casknotes.casks import Cask
from casknotes.errors import CaskError, NoNote, NoWare, TooLate, Twice, Unborne, Unknown
from casknotes.notes import Note
from casknotes.stores import Store
from casknotes.takings import taking_holds
from casknotes.weights import Weight, total
from model import Model, Refused
from storing import StoreCase

W = Weight
WARES = ["ale", "gin", "rum"]
MARKS = ["c" + figure for figure in "0123456789abcdef"] + ["c1" + figure for figure in "0123"]
NAMES = ["n" + letter for letter in "abcdefghijklmnopqrstuvwxyz"]
DRYINGS = [(), (("ale", 1, 10),), (("ale", 1, 2), ("rum", 1, 100)), (("ale", 0, 7), ("gin", 3, 9), ("rum", 99, 100))]
HOW_OFTEN = ["cask"] * 4 + ["weigh"] * 2 + ["burn"] * 2 + ["make"] * 7 + ["part"] * 2 + ["merge"] * 2 + ["lose"] + [
    "draw"] * 2 + ["send"] * 2 + ["pay"] * 3 + ["fire"]


def plain(told):
    """What is told in fractions and tuples, as the model tells it."""
    if isinstance(told, Weight):
        return Fraction(told.top, told.bottom)
    if isinstance(told, Note):
        return (told.name, told.ware, told.grains, told.born)
    if isinstance(told, Cask):
        return (told.mark, told.since, plain(told.parts))
    if isinstance(told, tuple):
        return tuple([plain(part) for part in told])
    return told


def field(error):
    for kind, name in [(Unknown, "what"), (Unborne, "lacks"), (Twice, "what"), (TooLate, "day"), (NoWare, "ware")]:
        if isinstance(error, kind):
            return plain(getattr(error, name))
    return None


class Teller:
    """Deeds by chance, but each time the same; most of them are such that they can be done."""

    def __init__(self, seed, marks=MARKS, names=NAMES):
        self.chance = random.Random(seed)
        self.marks = list(marks)
        self.names = list(names)

    def day(self, today):
        """A day that is mostly no less."""
        return max(0, min(1200, today + self.chance.choice([-1, 0, 0, 0, 0, 1, 2, 5, 20, 31, 70])))

    def weight(self):
        return W(self.chance.randint(1, 60), self.chance.choice([1, 1, 1, 2, 3, 7]))

    def parts(self):
        wares = sorted(self.chance.sample(WARES, self.chance.randint(0, 3)))
        return tuple([(ware, self.weight()) for ware in wares])

    def mark(self, model):
        if model.casks and self.chance.random() < 0.85:
            return self.chance.choice(sorted(model.casks))
        return self.chance.choice(self.marks)

    def note(self, model, ware=None):
        if model.aged(ware) and self.chance.random() < 0.9:
            return self.chance.choice(model.aged(ware))
        return self.chance.choice(self.names)

    def fresh(self, model):
        free = [name for name in self.names if name not in model.fates]
        return self.chance.choice(free if free and self.chance.random() < 0.9 else self.names + [None, "", "Na"])

    def notes(self, model, least):
        ware = self.chance.choice(WARES) if self.chance.random() < 0.9 else None
        found = []
        for _ in range(self.chance.randint(least, 3)):
            name = self.note(model, ware)
            if name not in found:
                found.append(name)
        return tuple(found) if len(found) >= least else tuple(self.names[:least])

    def deed(self, word, model):
        chance = self.chance
        if word == "cask":
            return chance.choice(self.marks), self.parts()
        if word == "weigh":
            return self.mark(model), self.parts()
        if word == "burn":
            return self.mark(model), chance.choice(WARES), self.weight().times(1, 9)
        if word == "make":
            return self.fresh(model) or self.names[0], chance.choice(WARES), chance.randint(1, 9)
        if word == "part":
            name = self.note(model)
            grains = model.notes.get(name, ("", 5))[1]
            one = chance.randint(1, max(1, grains - 1))
            return name, ((self.fresh(model), one), (self.fresh(model), max(1, grains - one)))
        if word == "merge":
            return self.notes(model, 2), self.fresh(model)
        if word == "lose":
            return self.note(model), self.fresh(model)
        if word == "draw":
            return (self.note(model),)
        if word == "send":
            return self.mark(model), chance.choice([None, self.note(model)])
        if word == "pay":
            names = self.notes(model, 1)
            grains = sum([model.notes[name][1] for name in names if name in model.notes])
            return names, max(1, grains + chance.choice([0, 0, -1, -2, -3, 1])), self.fresh(model)
        return (tuple(chance.sample(self.marks, 2)) if chance.random() < 0.3 else (self.mark(model),),)


class Rows(StoreCase):
    def begun(self, seed):
        drying = DRYINGS[seed % len(DRYINGS)]
        return Store(drying, seed % 50), Model(drying, seed % 50), Teller(seed)

    def step(self, store, model, teller):
        """One deed, done to both or refused by both."""
        word = teller.chance.choice(HOW_OFTEN)
        handed = teller.deed(word, model)
        day = teller.day(model.day)
        told, due = self.tried(store, model, day, word, handed)
        self.assertEqual(told, due, (day, word, handed))
        return word, due

    def tried(self, store, model, day, word, handed):
        ahead, casks = copy.deepcopy(store), store.casks()
        due = self.due(model, day, word, handed)
        try:
            told = getattr(store, word)(day, *handed)
        except (CaskError, NoWare) as error:
            self.assertTrue(store == ahead)
            return (False, (error.__class__.__name__, field(error))), due
        if word == "draw":
            grains = total(tuple([weight for _, weight in told])).top
            self.assertTrue(store.today() // 30 > ahead.today() // 30
                            or taking_holds(casks, [note for note in ahead.notes() if note.name == handed[0]][0].ware, grains, told))
        return (True, plain(told)), due

    def due(self, model, day, word, handed):
        """(True, what the model tells), or (False, (the name of the error, its field))."""
        try:
            return (True, model.do(day, word, *plain(handed)))
        except Refused as refused:
            return (False, refused.told)

    def alike(self, store, model):
        """All that the store tells is what the model tells."""
        self.assertEqual(store.today(), model.day)
        casks = [(mark, since, tuple(sorted(parts.items()))) for mark, (since, parts) in model.casks.items()]
        self.assertEqual(plain(store.casks()), tuple(sorted(casks, key=lambda cask: (cask[1], int(cask[0][1:], 16)))))
        self.assertEqual(plain(store.notes()), tuple([(name, *model.notes[name]) for name in model.aged()]))
        self.assertEqual(len(store), len(model.notes))
        self.assertEqual([note.name for note in store.excess()], model.excess())
        for ware in WARES:
            self.assertEqual(plain(store.stock(ware)), model.stock(ware))
            self.assertEqual(store.promised(ware), model.grains(model.aged(ware)))
        for name in NAMES:
            if name in model.fates:
                self.assertEqual(store.fate(name), model.fates[name])
            else:
                with self.assertRaises(NoNote):
                    store.fate(name)
