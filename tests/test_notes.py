"""Promises 6 and 7: notes, by age and ranked."""

import copy
import itertools
import unittest

from casknotes.errors import NoDay, NoGrains, NoName
from casknotes.notes import Note, by_age, ranked
from casknotes.weights import Weight
from things import FORTY_NINES, ODD_TEXTS, OTHER_KINDS, great_weight

NO_NAMES = OTHER_KINDS + ODD_TEXTS + ["", "abcdefghi", "Ann", "ann1", "c1", "an n", "ann\n", 0, 1, 7, FORTY_NINES]
NO_GRAINS = OTHER_KINDS + ODD_TEXTS + ["ale", "1", "12", 0, -1, -12, -FORTY_NINES]
NO_DAYS = OTHER_KINDS + ODD_TEXTS + ["ale", "0", "30", -1, 1201, -30, FORTY_NINES]
RIGHT = {"name": "ann", "ware": "ale", "grains": 12, "born": 30}
WRONG = {"name": NO_NAMES, "ware": NO_NAMES, "grains": NO_GRAINS, "born": NO_DAYS}
DUE = {"name": NoName, "ware": NoName, "grains": NoGrains, "born": NoDay}


def fields(note):
    return note.name, note.ware, note.grains, note.born


class NoteCase(unittest.TestCase):
    def is_note(self, note, *due):
        """It is just a Note with just these fields, of their own classes."""
        self.assertIs(note.__class__, Note)
        self.assertEqual(fields(note), due)
        self.assertEqual([field.__class__ for field in fields(note)], [str, str, int, int])

    def refused(self, error, *handed, **named):
        with self.subTest(handed=repr(handed)[:60], named=repr(named)[:60]):
            with self.assertRaises(error) as caught:
                Note(*handed, **named)
            self.assertIs(caught.exception.__class__, error)


class TestMade(NoteCase):
    def test_by_places(self):
        self.is_note(Note("ann", "ale", 12, 30), "ann", "ale", 12, 30)
        self.is_note(Note("bo", "rum", 1, 0), "bo", "rum", 1, 0)

    def test_born_may_be_left_out(self):
        self.is_note(Note("ann", "ale", 12), "ann", "ale", 12, 0)
        self.is_note(Note(name="ann", grains=12, ware="ale"), "ann", "ale", 12, 0)

    def test_by_names_in_any_order(self):
        for names in itertools.permutations(RIGHT):
            self.is_note(Note(**{name: RIGHT[name] for name in names}), "ann", "ale", 12, 30)
        self.is_note(Note("ann", "ale", born=30, grains=12), "ann", "ale", 12, 30)

    def test_edges(self):
        self.is_note(Note("a", "z", 1, 0), "a", "z", 1, 0)
        self.is_note(Note("abcdefgh", "zzzzzzzz", 10 ** 12, 1200), "abcdefgh", "zzzzzzzz", 10 ** 12, 1200)
        self.is_note(Note("ale", "ale", FORTY_NINES, 1), "ale", "ale", FORTY_NINES, 1)

    def test_of_great_grains_that_were_reckoned(self):
        grains = great_weight().top
        self.is_note(Note("ann", "ale", grains, 30), "ann", "ale", grains, 30)


class TestRefused(NoteCase):
    def test_one_field_otherwise(self):
        for name, things in WRONG.items():
            for thing in things:
                self.refused(DUE[name], **{**RIGHT, name: thing})

    def test_by_places(self):
        right = list(RIGHT.values())
        for at, (name, things) in enumerate(WRONG.items()):
            for thing in things[::5]:
                self.refused(DUE[name], *right[:at], thing, *right[at + 1:])

    def test_several_fields_otherwise(self):
        for many in [2, 3, 4]:
            for names in itertools.combinations(RIGHT, many):
                for thing in [True, False, None, "", "abcdefghi", "A", (), [], {}, -1, Weight(1), Note("a", "b", 1)]:
                    self.refused(DUE[names[0]], **{**RIGHT, **{name: thing for name in names}})

    def test_the_first_due_of_any_one_each(self):
        firsts = {"name": [0, "abcdefghi"], "ware": ["", ("ale",)], "grains": [0, True], "born": [1201, False]}
        for many in [2, 3, 4]:
            for names in itertools.combinations(RIGHT, many):
                for things in itertools.product(*[firsts[name] for name in names]):
                    self.refused(DUE[names[0]], **{**RIGHT, **dict(zip(names, things))})

    def test_one_too_far(self):
        self.refused(NoGrains, "ann", "ale", 0, 30)
        self.refused(NoDay, "ann", "ale", 12, -1)
        self.refused(NoDay, "ann", "ale", 12, 1201)
        self.refused(NoName, "abcdefghi", "ale", 12, 30)
        self.refused(NoName, "ann", "abcdefghi", 12, 30)

    def test_truths_are_no_numbers(self):
        self.refused(NoGrains, "ann", "ale", True)
        self.refused(NoDay, "ann", "ale", 1, True)
        self.refused(NoDay, "ann", "ale", 1, False)

    def test_none_is_no_day_here(self):
        self.refused(NoDay, "ann", "ale", 1, None)


class TestEqual(unittest.TestCase):
    def both(self, one, other, due):
        with self.subTest(one=repr(one)[:60], other=repr(other)[:60]):
            self.assertIs(one == other, due)
            self.assertIs(other == one, due)
            self.assertIs(one != other, not due)
            self.assertIs(other != one, not due)

    def test_like_fields(self):
        note = Note("ann", "ale", 12, 30)
        self.both(note, note, True)
        self.both(note, Note("ann", "ale", 12, 30), True)
        self.both(Note("bo", "rum", 1), Note("bo", "rum", 1, 0), True)
        self.both(Note("bo", "rum", FORTY_NINES), Note("bo", "rum", FORTY_NINES), True)

    def test_one_field_otherwise(self):
        note = Note("ann", "ale", 12, 30)
        for other in [Note("bo", "ale", 12, 30), Note("ann", "rum", 12, 30), Note("ann", "ale", 13, 30),
                      Note("ann", "ale", 12, 31), Note("ann", "ale", 12), Note("ale", "ann", 12, 30),
                      Note("ann", "ale", 30, 12), Note("anna", "ale", 12, 30), Note("an", "ale", 12, 30)]:
            self.both(note, other, False)

    def test_other_kinds(self):
        note = Note("cy", "ale", 12, 30)
        for other in OTHER_KINDS + ODD_TEXTS + ["cy", "cy 12 ale 30", "Note('cy', 'ale', 12, 30)", 12, 30,
                                                ("cy", "ale", 12, 30), ["cy", "ale", 12, 30], fields(note)]:
            self.both(note, other, False)

    def test_in_and_count(self):
        note, like, other = Note("ann", "ale", 12), Note("ann", "ale", 12), Note("ann", "ale", 13)
        self.assertIn(note, (other, like))
        self.assertNotIn(note, [other, "ann", None, 12, Weight(12)])
        self.assertEqual([like, other, note, None, "ann"].count(note), 2)
        self.assertEqual((other, like).index(note), 1)
        self.assertEqual({"a": (note,)}, {"a": (like,)})


class TestShown(unittest.TestCase):
    def test_str(self):
        self.assertEqual(str(Note("ann", "ale", 12, 30)), "ann 12 ale 30")
        self.assertEqual(str(Note("bo", "rum", 1)), "bo 1 rum 0")
        self.assertEqual(str(Note("abcdefgh", "zzzzzzzz", 10 ** 12, 1200)), "abcdefgh 1000000000000 zzzzzzzz 1200")

    def test_repr(self):
        self.assertEqual(repr(Note("ann", "ale", 12, 30)), "Note('ann', 'ale', 12, 30)")
        self.assertEqual(repr(Note("bo", "rum", 1)), "Note('bo', 'rum', 1, 0)")
        self.assertEqual(repr(Note("bo", "rum", 1, born=0)), "Note('bo', 'rum', 1, 0)")

    def test_forty_figures(self):
        note = Note("ann", "ale", FORTY_NINES, 1200)
        self.assertEqual(str(note), "ann " + "9" * 40 + " ale 1200")
        self.assertEqual(repr(note), "Note('ann', 'ale', " + "9" * 40 + ", 1200)")

    def test_more_figures_than_python_writes(self):
        grains = great_weight().top
        note = Note("ann", "ale", grains)
        self.assertEqual(str(note), "ann " + str(Weight(grains)) + " ale 0")
        self.assertEqual(repr(note), "Note('ann', 'ale', " + str(Weight(grains)) + ", 0)")

    def test_within_tuples_and_lists(self):
        notes = (Note("ann", "ale", 12, 30), Note("bo", "rum", 1))
        shown = "Note('ann', 'ale', 12, 30), Note('bo', 'rum', 1, 0)"
        self.assertEqual(str(notes), "(" + shown + ")")
        self.assertEqual(repr(notes), "(" + shown + ")")
        self.assertEqual(str(list(notes)), "[" + shown + "]")
        self.assertEqual(f"{notes[0]} {notes[1]!r}", "ann 12 ale 30 Note('bo', 'rum', 1, 0)")


class ByAge(unittest.TestCase):
    # By age, the names in other orders than the days, some of them beginnings of others.
    AGED = (Note("zed", "ale", 5), Note("a", "rum", 1, 1), Note("aa", "ale", 9, 1), Note("ab", "ale", 9, 1),
            Note("b", "ale", 3, 1), Note("cy", "rum", 7, 2), Note("bo", "gin", 2, 10), Note("ann", "ale", 4, 1200))

    def is_told(self, told, due):
        self.assertIs(told.__class__, tuple)
        self.assertEqual(told, tuple(due))
        self.assertEqual([note.__class__ for note in told], [Note] * len(due))


class TestByAge(ByAge):
    def test_none_and_one(self):
        self.is_told(by_age(()), ())
        self.is_told(by_age((Note("ann", "ale", 12, 30),)), (Note("ann", "ale", 12, 30),))

    def test_in_any_order(self):
        for notes in itertools.permutations(self.AGED[:6]):
            self.is_told(by_age(notes), self.AGED[:6])
        self.is_told(by_age(tuple(reversed(self.AGED))), self.AGED)
        self.is_told(by_age(self.AGED), self.AGED)

    def test_born_alike(self):
        names = ["a", "aa", "aaa", "ab", "abc", "b", "ba", "z", "za", "zz"]
        due = [Note(name, "ale", 20 - at, 7) for at, name in enumerate(names)]
        self.is_told(by_age(tuple(reversed(due))), due)
        self.is_told(by_age(tuple(due[5:] + due[:5])), due)

    def test_days_are_numbers(self):
        self.is_told(by_age((Note("a", "ale", 1, 100), Note("b", "ale", 1, 20), Note("c", "ale", 1, 3))),
                     (Note("c", "ale", 1, 3), Note("b", "ale", 1, 20), Note("a", "ale", 1, 100)))

    def test_twenty_four(self):
        notes = tuple([Note("abcdefghijklmnopqrstuvwxyz"[at * 7 % 26], "ale", at + 1, at * 11 % 5) for at in range(24)])
        self.is_told(by_age(notes), sorted(notes, key=lambda note: (note.born, note.name)))

    def test_what_is_handed_in_stays(self):
        notes = tuple(reversed(self.AGED))
        ahead = copy.deepcopy(notes)
        by_age(notes)
        self.assertEqual(notes, ahead)

    def test_by_name(self):
        self.is_told(by_age(notes=tuple(reversed(self.AGED))), self.AGED)


class TestRanked(ByAge):
    BACK = tuple(reversed(ByAge.AGED))

    def named(self, names):
        return [note for name in names.split() for note in self.AGED if note.name == name]

    def test_without_a_function_by_age(self):
        self.is_told(ranked(()), ())
        self.is_told(ranked(self.BACK), self.AGED)
        self.is_told(ranked(self.BACK, None), self.AGED)
        self.is_told(ranked(self.BACK, rank=None), self.AGED)

    def test_by_whole_numbers(self):
        due = self.named("a bo b ann zed cy aa ab")
        self.is_told(ranked(self.BACK, lambda note: note.grains), due)
        self.is_told(ranked(self.AGED, lambda note: note.grains), due)
        self.is_told(ranked(self.AGED, lambda note: note.grains - 10 ** 6), due)
        self.is_told(ranked(self.AGED, lambda note: -note.grains), self.named("aa ab cy zed ann b bo a"))

    def test_by_texts(self):
        self.is_told(ranked(self.BACK, lambda note: note.ware), self.named("zed aa ab b ann bo a cy"))
        self.is_told(ranked(self.BACK, lambda note: note.name), self.named("a aa ab ann b bo cy zed"))
        self.is_told(ranked(self.BACK, lambda note: str(note.grains)), self.named("a bo b ann zed cy aa ab"))

    def test_texts_are_not_numbers(self):
        notes = (Note("a", "ale", 9), Note("b", "ale", 10), Note("c", "ale", 100))
        self.is_told(ranked(notes, lambda note: str(note.grains)), (notes[1], notes[2], notes[0]))
        self.is_told(ranked(notes, lambda note: note.grains), notes)

    def test_those_alike_by_age(self):
        for tells in [0, 7, -7, "", "ale"]:
            self.is_told(ranked(self.BACK, lambda note: tells), self.AGED)
        self.is_told(ranked(self.BACK, lambda note: note.grains // 6), self.named("zed a b bo ann aa ab cy"))

    def test_one_note(self):
        note = Note("ann", "ale", 12, 30)
        self.is_told(ranked((note,), lambda note: note.grains), (note,))
        self.is_told(ranked((), lambda note: note.grains), ())

    def test_what_is_handed_in_stays(self):
        notes = self.BACK
        ahead = copy.deepcopy(notes)
        ranked(notes, lambda note: note.grains)
        ranked(notes)
        self.assertEqual(notes, ahead)

    def test_by_name_and_by_place(self):
        due = self.named("a bo b ann zed cy aa ab")
        self.is_told(ranked(notes=self.BACK, rank=lambda note: note.grains), due)
        self.is_told(ranked(rank=lambda note: note.grains, notes=self.BACK), due)
        self.is_told(ranked(self.BACK, rank=lambda note: note.grains), due)
        self.is_told(ranked(notes=self.BACK), self.AGED)


if __name__ == "__main__":
    unittest.main()
