"""Promises 2, 3 and 13 to 19: long rows of deeds, held against the model, and what was told handed in again."""

import unittest

from casknotes.notes import Note
from casknotes.shares import shares_holds
from casknotes.stores import Store
from casknotes.takings import taking_holds
from casknotes.weights import Weight, total
from rows import DRYINGS, HOW_OFTEN, WARES, Rows
from storing import everything

W = Weight


class TestRows(Rows):
    def test_held_against_the_model(self):
        seen = {}
        for seed in range(60):
            store, model, teller = self.begun(seed)
            for _ in range(30 + seed * 2):
                word, (done, told) = self.step(store, model, teller)
                key = (word, done or told[0])
                seen[key] = seen.get(key, 0) + 1
                self.alike(store, model)
        # Each deed was done, and refused in the ways that it can be.
        due = [("cask", "Twice"), ("weigh", "NoMark"), ("burn", "NoWare"), ("burn", "Short"), ("make", "Full"),
               ("make", "NotBorne"), ("part", "Twice"), ("part", "NoSum"), ("part", "NoName"), ("merge", "NoSum"),
               ("merge", "LostNote"), ("lose", "NoNote"), ("draw", "Short"), ("send", "NotBorne"), ("pay", "NoSum"),
               ("pay", "NoName"), ("fire", "NoMark")] + [(word, True) for word in HOW_OFTEN]
        self.assertEqual([key for key in due if key not in seen], [])

    def test_told_again_all_is_the_same(self):
        for seed in range(5):
            tellings = []
            for _ in range(2):
                store, model, teller = self.begun(seed)
                told = [self.step(store, model, teller) for _ in range(40)]
                tellings.append((told, everything(store)))
            self.assertEqual(tellings[0], tellings[1])

    def test_two_stores_by_turns(self):
        for seed in range(6):
            one, other = self.begun(seed), self.begun(seed + 100)
            for _ in range(40):
                for store, model, teller in [one, other]:
                    self.step(store, model, teller)
                    self.alike(one[0], one[1])
                    self.alike(other[0], other[1])

    def test_whenever_it_is_asked(self):
        for seed in range(10):
            store, model, teller = self.begun(seed)
            asked, like, same = self.begun(seed)
            for _ in range(40):
                self.step(store, model, teller)
                self.step(asked, like, same)
                for day in [None, asked.today(), min(1200, asked.today() + 45), 1200]:
                    asked.stock("ale", day)
                    asked.excess(day)
                self.assertTrue(store == asked)


class TestHandedInAgain(Rows):
    def test_casks_and_weights(self):
        for seed in range(12):
            store, model, teller = self.begun(seed)
            for _ in range(40):
                self.step(store, model, teller)
            # Dried for years, so of far more figures than are handed in first.
            late = Store(DRYINGS[seed % len(DRYINGS)], store.today())
            for cask in store.casks():
                late.cask(store.today(), cask.mark, cask.parts)
            late.cask(store.today(), "cfff", ())
            for ware in WARES:
                self.assertEqual(late.stock(ware), store.stock(ware))
                self.assertEqual(late.stock(ware, 1200), store.stock(ware, 1200))
            for cask in late.casks():
                late.weigh(1200, cask.mark, cask.parts)
            for cask in late.casks():
                for ware, weight in cask.parts:
                    late.burn(1200, cask.mark, ware, weight)
            self.assertEqual([len(cask) for cask in late.casks()], [0] * len(late.casks()))

    def test_names_marks_grains_days(self):
        store = Store((("ale", 1, 3),))
        store.cask(0, "c1", (("ale", W(100)),))
        store.make(0, "ann", "ale", 60)
        for letter in "abc":
            note, cask = store.notes()[0], store.casks()[0]
            change = store.pay(store.today(), (note.name,), 1, "p" + letter)
            store.weigh(store.today() + 30, cask.mark, cask.parts)
            store.make(store.today(), "m" + letter, change.ware, store.stock("ale").whole_up() // 9)
            store.merge(store.today(), tuple([note.name for note in store.notes()]), "r" + letter)
        self.is_just(store.notes(), (Note("rc", "ale", 90, 90),))

    def test_shares_and_takings(self):
        store = Store((("ale", 1, 7),))
        for mark in ["c1", "c2", "c3"]:
            store.cask(0, mark, (("ale", W(50, 3)), ("rum", W(9))))
        store.make(0, "ann", "ale", 17)
        store.make(1, "bo", "ale", 20)
        casks, stock = store.casks(), store.stock("ale")
        taken = store.draw(2, "ann")
        self.assertTrue(taking_holds(casks, "ale", 17, taken))
        self.assertTrue(taking_holds(casks, "ale", 17, tuple(reversed(taken))))
        self.assertEqual(store.stock("ale").plus(total(tuple([weight for _, weight in taken]))), stock)
        stock, notes = store.stock("ale", 600), store.notes()
        loss = store.casks()[2].weight_of("ale").times(6 ** 20, 7 ** 20)
        (ware, shares), _ = store.fire(600, ("c3",))
        self.assertEqual(ware, "ale")
        self.assertTrue(shares_holds(loss, stock, notes, shares))
        store.weigh(600, "c2", tuple([("ale", weight) for name, weight in shares if name == "bo"]))
        self.assertEqual(store.casks()[1].part("ale"), dict(shares)["bo"])


class TestGrains(Rows):
    def test_neither_come_nor_go_but_those_that_are_told(self):
        for seed in range(20):
            store, model, teller = self.begun(seed)
            for _ in range(50):
                ahead = {ware: store.promised(ware) for ware in WARES}
                born = {note.name: note.born for note in store.notes()}
                word, (done, told) = self.step(store, model, teller)
                changed = {ware: store.promised(ware) - ahead[ware] for ware in WARES}
                if not done or word in ["cask", "weigh", "burn", "part", "merge", "lose", "fire"]:
                    self.assertEqual(changed, {ware: 0 for ware in WARES})
                elif word == "make":
                    self.assertEqual(sorted(changed.values())[:2], [0, 0])
                else:
                    self.assertTrue(all([change <= 0 for change in changed.values()]))
                if word != "make" and born:
                    # None gets elder: whatever comes is born no earlier than the eldest that went.
                    fresh = [note.born for note in store.notes() if note.name not in born]
                    gone = [day for name, day in born.items() if name not in [note.name for note in store.notes()]]
                    self.assertTrue(all([day in gone for day in fresh]))


if __name__ == "__main__":
    unittest.main()
