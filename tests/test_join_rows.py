"""Promises 3 and 20: long rows of deeds in two stores by turns, joined between and going on."""

import copy
import unittest

from casknotes.deeds import done, is_deed
from casknotes.errors import CaskError, NoWare
from casknotes.joining import joined
from casknotes.stores import Store
from model import Model
from rows import DRYINGS, HOW_OFTEN, MARKS, NAMES, Rows, Teller
from storing import everything


def joined_models(one, other):
    """What two models come to as one, by the document."""
    day = max(one.day, other.day)
    both = Model((), day)
    both.drying = one.drying
    for model in [one, other]:
        late = copy.deepcopy(model)
        late.tick(day)
        both.casks.update(late.casks)
        both.notes.update(late.notes)
        both.marks += late.marks
        both.fates.update(late.fates)
    return both


class TestJoinedRows(Rows):
    def two(self, seed):
        """Two stores, begun on days of their own, with marks and names of their own."""
        drying = DRYINGS[seed % len(DRYINGS)]
        return [(Store(drying, day), Model(drying, day),
                 Teller(seed * 2 + at, MARKS[at * 6:at * 6 + 6], NAMES[at * 12:at * 12 + 12]))
                for at, day in enumerate([seed % 37, seed % 80])]

    def test_by_turns_joined_between(self):
        for seed in range(24):
            pairs = self.two(seed)
            whole = None
            for many in range(36):
                for store, model, teller in pairs:
                    self.step(store, model, teller)
                if many % 9 == 8:
                    (one, here, _), (other, there, _) = pairs
                    ahead, told = (copy.deepcopy(one), copy.deepcopy(other)), (everything(one), everything(other))
                    whole = joined(one, other)
                    self.assertTrue(whole == joined(other, one))
                    model, teller = joined_models(here, there), Teller(seed + 500)
                    self.alike(whole, model)
                    for _ in range(12):
                        self.step(whole, model, teller)
                        self.alike(whole, model)
                    self.assertTrue(one == ahead[0] and other == ahead[1])
                    self.assertEqual((everything(one), everything(other)), told)
                    self.alike(one, here)
                    self.alike(other, there)
            left = copy.deepcopy(whole), everything(whole)
            for store, model, teller in pairs:
                for _ in range(6):
                    self.step(store, model, teller)
            self.assertTrue(whole == left[0])
            self.assertEqual(everything(whole), left[1])

    def test_deeds_done_by_turns(self):
        for seed in range(10):
            pairs = self.two(seed)
            likes = [copy.deepcopy(store) for store, _, _ in pairs]
            for _ in range(40):
                for (store, model, teller), like in zip(pairs, likes):
                    word = teller.chance.choice(HOW_OFTEN)
                    deed = (word,) + teller.deed(word, model)
                    if not is_deed(deed):
                        continue
                    day = teller.day(store.today())
                    told = self.came(lambda: done(store, day, deed))
                    self.assertEqual(told, self.came(lambda: getattr(like, word)(day, *deed[1:])))
                    self.assertEqual(told[0], self.due(model, day, word, deed[1:])[0])
                    self.assertTrue(store == like)
                    self.alike(store, model)
            self.assertTrue(joined(pairs[0][0], pairs[1][0]) == joined(likes[1], likes[0]))

    def came(self, ask):
        """What is told, or the class of the refusal and its field."""
        try:
            return (True, ask())
        except (CaskError, NoWare) as error:
            return (False, error.__class__, vars(error))


if __name__ == "__main__":
    unittest.main()
