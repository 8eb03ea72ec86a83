"""Promises 2, 3 and 13 to 19: long rows of deeds, held against the model, and what was told handed in again."""

import copy
import random
import unittest
from fractions import Fraction

from casknotes.casks import Cask
from casknotes.errors import CaskError, NoNote, NoWare, TooLate, Twice, Unborne, Unknown
from casknotes.notes import Note
from casknotes.shares import shares_holds
from casknotes.stores import Store
from casknotes.takings import taking_holds
from casknotes.weights import Weight, total
from model import Model, Refused
from storing import StoreCase, everything

W = Weight
WARES = ["ale", "gin", "rum"]
MARKS = ["c" + figure for figure in "0123456789abcdef"] + ["c1" + figure for figure in "0123"]
NAMES = ["n" + letter for letter in "abcdefghijklmnopqrstuvwxyz"]
DRYINGS = [(), (("ale", 1, 10),), (("ale", 1, 2), ("rum", 1, 100)), (("ale", 0, 7), ("gin", 3, 9), ("rum", 99, 100))]
HOW_OFTEN = ["cask"] * 4 + ["weigh"] * 2 + ["burn"] * 2 + ["make"] * 7 + ["part"] * 2 + ["merge"] * 2 + ["lose"] + [
    "draw"] * 2 + ["send"] * 2 + ["pay"] * 3 + ["fire"]


def plain(told):
    """What is told in fractions and tuples, as the model tells it."""
    if isinstance(told, Weight):
        return Fraction(told.top, told.bottom)
    if isinstance(told, Note):
        return (told.name, told.ware, told.grains, told.born)
    if isinstance(told, Cask):
        return (told.mark, told.since, plain(told.parts))
    if isinstance(told, tuple):
        return tuple([plain(part) for part in told])
    return told


def field(error):
    for kind, name in [(Unknown, "what"), (Unborne, "lacks"), (Twice, "what"), (TooLate, "day"), (NoWare, "ware")]:
        if isinstance(error, kind):
            return plain(getattr(error, name))
    return None


class Teller:
    """Deeds by chance, but each time the same; most of them are such that they can be done."""

    def __init__(self, seed):
        self.chance = random.Random(seed)

    def weight(self):
        return W(self.chance.randint(1, 60), self.chance.choice([1, 1, 1, 2, 3, 7]))

    def parts(self):
        wares = sorted(self.chance.sample(WARES, self.chance.randint(0, 3)))
        return tuple([(ware, self.weight()) for ware in wares])

    def mark(self, model):
        if model.casks and self.chance.random() < 0.85:
            return self.chance.choice(sorted(model.casks))
        return self.chance.choice(MARKS)

    def note(self, model, ware=None):
        if model.aged(ware) and self.chance.random() < 0.9:
            return self.chance.choice(model.aged(ware))
        return self.chance.choice(NAMES)

    def fresh(self, model):
        free = [name for name in NAMES if name not in model.fates]
        return self.chance.choice(free if free and self.chance.random() < 0.9 else NAMES + [None, "", "Na"])

    def notes(self, model, least):
        ware = self.chance.choice(WARES) if self.chance.random() < 0.9 else None
        found = []
        for _ in range(self.chance.randint(least, 3)):
            name = self.note(model, ware)
            if name not in found:
                found.append(name)
        return tuple(found) if len(found) >= least else tuple(NAMES[:least])

    def deed(self, word, model):
        chance = self.chance
        if word == "cask":
            return chance.choice(MARKS), self.parts()
        if word == "weigh":
            return self.mark(model), self.parts()
        if word == "burn":
            return self.mark(model), chance.choice(WARES), self.weight().times(1, 9)
        if word == "make":
            return self.fresh(model) or "nx", chance.choice(WARES), chance.randint(1, 9)
        if word == "part":
            name = self.note(model)
            grains = model.notes.get(name, ("", 5))[1]
            one = chance.randint(1, max(1, grains - 1))
            return name, ((self.fresh(model), one), (self.fresh(model), max(1, grains - one)))
        if word == "merge":
            return self.notes(model, 2), self.fresh(model)
        if word == "lose":
            return self.note(model), self.fresh(model)
        if word == "draw":
            return (self.note(model),)
        if word == "send":
            return self.mark(model), chance.choice([None, self.note(model)])
        if word == "pay":
            names = self.notes(model, 1)
            grains = sum([model.notes[name][1] for name in names if name in model.notes])
            return names, max(1, grains + chance.choice([0, 0, -1, -2, -3, 1])), self.fresh(model)
        return (tuple(chance.sample(MARKS, 2)) if chance.random() < 0.3 else (self.mark(model),),)


class Rows(StoreCase):
    def begun(self, seed):
        drying = DRYINGS[seed % len(DRYINGS)]
        return Store(drying, seed % 50), Model(drying, seed % 50), Teller(seed)

    def step(self, store, model, teller):
        """One deed, done to both or refused by both."""
        word = teller.chance.choice(HOW_OFTEN)
        handed = teller.deed(word, model)
        day = min(1200, model.day + teller.chance.choice([-1, 0, 0, 0, 0, 1, 2, 5, 20, 31, 70]))
        day = max(0, day)
        told, due = self.tried(store, model, day, word, handed)
        self.assertEqual(told, due, (day, word, handed))
        return word, due

    def tried(self, store, model, day, word, handed):
        ahead, casks = copy.deepcopy(store), store.casks()
        try:
            due = (True, model.do(day, word, *plain(handed)))
        except Refused as refused:
            due = (False, refused.told)
        try:
            told = getattr(store, word)(day, *handed)
        except (CaskError, NoWare) as error:
            self.assertTrue(store == ahead)
            return (False, (error.__class__.__name__, field(error))), due
        if word == "draw":
            grains = total(tuple([weight for _, weight in told])).top
            self.assertTrue(store.today() // 30 > ahead.today() // 30
                            or taking_holds(casks, [note for note in ahead.notes() if note.name == handed[0]][0].ware, grains, told))
        return (True, plain(told)), due

    def alike(self, store, model):
        """All that the store tells is what the model tells."""
        self.assertEqual(store.today(), model.day)
        casks = [(mark, since, tuple(sorted(parts.items()))) for mark, (since, parts) in model.casks.items()]
        self.assertEqual(plain(store.casks()), tuple(sorted(casks, key=lambda cask: (cask[1], int(cask[0][1:], 16)))))
        self.assertEqual(plain(store.notes()), tuple([(name, *model.notes[name]) for name in model.aged()]))
        self.assertEqual(len(store), len(model.notes))
        self.assertEqual([note.name for note in store.excess()], model.excess())
        for ware in WARES:
            self.assertEqual(plain(store.stock(ware)), model.stock(ware))
            self.assertEqual(store.promised(ware), model.grains(model.aged(ware)))
        for name in NAMES:
            if name in model.fates:
                self.assertEqual(store.fate(name), model.fates[name])
            else:
                with self.assertRaises(NoNote):
                    store.fate(name)


class TestRows(Rows):
    def test_held_against_the_model(self):
        seen = {}
        for seed in range(60):
            store, model, teller = self.begun(seed)
            for _ in range(30 + seed * 2):
                word, (done, told) = self.step(store, model, teller)
                key = (word, done or told[0])
                seen[key] = seen.get(key, 0) + 1
                self.alike(store, model)
        # Each deed was done, and refused in the ways that it can be.
        due = [("cask", "Twice"), ("weigh", "NoMark"), ("burn", "NoWare"), ("burn", "Short"), ("make", "Full"),
               ("make", "NotBorne"), ("part", "Twice"), ("part", "NoSum"), ("part", "NoName"), ("merge", "NoSum"),
               ("merge", "LostNote"), ("lose", "NoNote"), ("draw", "Short"), ("send", "NotBorne"), ("pay", "NoSum"),
               ("pay", "NoName"), ("fire", "NoMark")] + [(word, True) for word in HOW_OFTEN]
        self.assertEqual([key for key in due if key not in seen], [])

    def test_told_again_all_is_the_same(self):
        for seed in range(5):
            tellings = []
            for _ in range(2):
                store, model, teller = self.begun(seed)
                told = [self.step(store, model, teller) for _ in range(40)]
                tellings.append((told, everything(store)))
            self.assertEqual(tellings[0], tellings[1])

    def test_two_stores_by_turns(self):
        for seed in range(6):
            one, other = self.begun(seed), self.begun(seed + 100)
            for _ in range(40):
                for store, model, teller in [one, other]:
                    self.step(store, model, teller)
                    self.alike(one[0], one[1])
                    self.alike(other[0], other[1])

    def test_whenever_it_is_asked(self):
        for seed in range(10):
            store, model, teller = self.begun(seed)
            asked, like, same = self.begun(seed)
            for _ in range(40):
                self.step(store, model, teller)
                self.step(asked, like, same)
                for day in [None, asked.today(), min(1200, asked.today() + 45), 1200]:
                    asked.stock("ale", day)
                    asked.excess(day)
                self.assertTrue(store == asked)


class TestHandedInAgain(Rows):
    def test_casks_and_weights(self):
        for seed in range(12):
            store, model, teller = self.begun(seed)
            for _ in range(40):
                self.step(store, model, teller)
            # Dried for years, so of far more figures than are handed in first.
            late = Store(DRYINGS[seed % len(DRYINGS)], store.today())
            for cask in store.casks():
                late.cask(store.today(), cask.mark, cask.parts)
            late.cask(store.today(), "cfff", ())
            for ware in WARES:
                self.assertEqual(late.stock(ware), store.stock(ware))
                self.assertEqual(late.stock(ware, 1200), store.stock(ware, 1200))
            for cask in late.casks():
                late.weigh(1200, cask.mark, cask.parts)
            for cask in late.casks():
                for ware, weight in cask.parts:
                    late.burn(1200, cask.mark, ware, weight)
            self.assertEqual([len(cask) for cask in late.casks()], [0] * len(late.casks()))

    def test_names_marks_grains_days(self):
        store = Store((("ale", 1, 3),))
        store.cask(0, "c1", (("ale", W(100)),))
        store.make(0, "ann", "ale", 60)
        for letter in "abc":
            note, cask = store.notes()[0], store.casks()[0]
            change = store.pay(store.today(), (note.name,), 1, "p" + letter)
            store.weigh(store.today() + 30, cask.mark, cask.parts)
            store.make(store.today(), "m" + letter, change.ware, store.stock("ale").whole_up() // 9)
            store.merge(store.today(), tuple([note.name for note in store.notes()]), "r" + letter)
        self.is_just(store.notes(), (Note("rc", "ale", 90, 90),))

    def test_shares_and_takings(self):
        store = Store((("ale", 1, 7),))
        for mark in ["c1", "c2", "c3"]:
            store.cask(0, mark, (("ale", W(50, 3)), ("rum", W(9))))
        store.make(0, "ann", "ale", 17)
        store.make(1, "bo", "ale", 20)
        casks, stock = store.casks(), store.stock("ale")
        taken = store.draw(2, "ann")
        self.assertTrue(taking_holds(casks, "ale", 17, taken))
        self.assertTrue(taking_holds(casks, "ale", 17, tuple(reversed(taken))))
        self.assertEqual(store.stock("ale").plus(total(tuple([weight for _, weight in taken]))), stock)
        stock, notes = store.stock("ale", 600), store.notes()
        loss = store.casks()[2].weight_of("ale").times(6 ** 20, 7 ** 20)
        (ware, shares), _ = store.fire(600, ("c3",))
        self.assertEqual(ware, "ale")
        self.assertTrue(shares_holds(loss, stock, notes, shares))
        store.weigh(600, "c2", tuple([("ale", weight) for name, weight in shares if name == "bo"]))
        self.assertEqual(store.casks()[1].part("ale"), dict(shares)["bo"])


class TestGrains(Rows):
    def test_neither_come_nor_go_but_those_that_are_told(self):
        for seed in range(20):
            store, model, teller = self.begun(seed)
            for _ in range(50):
                ahead = {ware: store.promised(ware) for ware in WARES}
                born = {note.name: note.born for note in store.notes()}
                word, (done, told) = self.step(store, model, teller)
                changed = {ware: store.promised(ware) - ahead[ware] for ware in WARES}
                if not done or word in ["cask", "weigh", "burn", "part", "merge", "lose", "fire"]:
                    self.assertEqual(changed, {ware: 0 for ware in WARES})
                elif word == "make":
                    self.assertEqual(sorted(changed.values())[:2], [0, 0])
                else:
                    self.assertTrue(all([change <= 0 for change in changed.values()]))
                if word != "make" and born:
                    # None gets elder: whatever comes is born no earlier than the eldest that went.
                    fresh = [note.born for note in store.notes() if note.name not in born]
                    gone = [day for name, day in born.items() if name not in [note.name for note in store.notes()]]
                    self.assertTrue(all([day in gone for day in fresh]))


if __name__ == "__main__":
    unittest.main()
