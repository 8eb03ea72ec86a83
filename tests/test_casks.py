"""Promise 8: parts, casks, casks by age."""

import copy
import itertools
import unittest

from casknotes.casks import Cask, casks_by_age, is_parts
from casknotes.errors import NoDay, NoName, NoWare, NoWeight, Short
from casknotes.notes import Note
from casknotes.weights import Weight
from things import FORTY_NINES, ODD_TEXTS, OTHER_KINDS, great_weight, nested

W = Weight
ALE = ("ale", W(7, 2))
RUM = ("rum", W(3))
GIN = ("gin", W(1, 100))
TEA = ("tea", W(10 ** 12))
BOTH = (ALE, RUM)

PARTS = [
    (), (ALE,), (RUM,), BOTH, (ALE, GIN, RUM), (ALE, GIN, RUM, TEA), (("a", W(1)), ("aa", W(1))),
    (("a", W(1)), ("aa", W(1)), ("ab", W(1)), ("b", W(1))), (("zzzzzzzz", W(FORTY_NINES, 7)),),
    (("ale", great_weight()),), (("ale", W(1, FORTY_NINES)), ("rum", W(1))),
]
# What is no parts, beside things of other kinds.
NO_PARTS = [
    (("a", W(1)), ("b", W(1)), ("c", W(1)), ("d", W(1)), ("e", W(1))),
    (RUM, ALE), (ALE, ALE), (ALE, ("ale", W(1))), (ALE, RUM, GIN), (ALE, RUM, ALE), (ALE, RUM, RUM),
    (("aa", W(1)), ("a", W(1))), (("ab", W(1)), ("aa", W(1))),
    (("ale", W(0)),), (ALE, ("rum", W(0))), (("ale", W(0)), RUM), (("ale", W(0, 7)),),
    [], [ALE], [ALE, RUM], (["ale", W(7, 2)],), (ALE, ["rum", W(3)]), [["ale", W(7, 2)]], {"ale": W(7, 2)},
    ({"ale": W(7, 2)},), ALE, ("ale",), ("ale", "rum"), (W(1),), ((ALE,),), (BOTH,), ((),), (ALE, ()), (None,),
    (ALE, None), (("ale",),), (("ale", W(1), W(1)),), (("ale", W(1), 1),), (("ale", W(1), None),), ((ALE, RUM),),
    (("ale", 1),), (("ale", 7),), (("ale", "7/2"),), (("ale", True),), (("ale", None),), (("ale", (7, 2)),),
    (("ale", [W(1)]),), (("ale", (W(1),)),), (("ale", ALE),), (("ale", Note("ann", "ale", 12)),),
    (("ale", Cask("c0", 4)),), (("", W(1)),), (("Ale", W(1)),), (("abcdefghi", W(1)),), (("c1", W(1)),),
    (("ale ", W(1)),), (("ale\n", W(1)),), ((7, W(1)),), ((None, W(1)),), ((True, W(1)),), ((("ale",), W(1)),),
    ((["ale"], W(1)),), ((W(1), "ale"),), ((W(1), W(1)),), (ALE, (W(1), W(1))), (ALE, ("rum", 3)), (ALE, (3, W(1))),
    ((Note("ann", "ale", 12), W(1)),), (Note("ann", "ale", 12),), Cask("c0", 4, BOTH), (Cask("c0", 4, BOTH),),
    (("ale", nested(W(1), tuple, 27)),), (nested("ale", tuple, 29),), (nested(ALE, list, 27),),
    ((nested("ale", dict, 20), W(1)),), (ALE,) * 3000, ((),) * 4, (None,) * 4, ("ale",) * 4, tuple(BOTH[0]) + BOTH,
] + [thing for thing in OTHER_KINDS if thing != () and thing != (("ale", W(1)),)] + ODD_TEXTS + ["ale", 0, 1, 4, -1]

NO_MARKS = OTHER_KINDS + ODD_TEXTS + ["", "c", "1f", "c01", "cA", "ann", "c1234567", 0, 1, FORTY_NINES]
NO_DAYS = OTHER_KINDS + ODD_TEXTS + ["0", "30", -1, 1201, FORTY_NINES, -FORTY_NINES]
RIGHT = {"mark": "c1f", "since": 30, "parts": BOTH}
WRONG = {"mark": NO_MARKS, "since": NO_DAYS, "parts": [thing for thing in NO_PARTS if thing is not None]}
DUE = {"mark": NoName, "since": NoDay, "parts": NoWeight}


def fields(cask):
    return cask.mark, cask.since, cask.parts


class CaskCase(unittest.TestCase):
    def is_cask(self, cask, *due):
        """It is just a Cask with just these fields, of their own classes at any depth."""
        self.assertIs(cask.__class__, Cask)
        self.assertEqual(fields(cask), due)
        self.assertEqual([field.__class__ for field in fields(cask)], [str, int, tuple])
        for part in cask.parts:
            self.assertEqual([part.__class__] + [field.__class__ for field in part], [tuple, str, Weight])

    def is_weight(self, weight, *due):
        self.assertIs(weight.__class__, Weight)
        self.assertEqual(weight, Weight(*due))


class TestIsParts(unittest.TestCase):
    def test_parts(self):
        for thing in PARTS:
            with self.subTest(repr(thing)[:60]):
                self.assertIs(is_parts(thing), True)

    def test_no_parts(self):
        for thing in NO_PARTS:
            with self.subTest(repr(thing)[:60]):
                self.assertIs(is_parts(thing), False)

    def test_rising_in_one_order_alone(self):
        for parts in itertools.permutations((ALE, GIN, RUM, TEA)):
            self.assertIs(is_parts(parts), parts == (ALE, GIN, RUM, TEA))

    def test_what_is_handed_in_stays(self):
        for thing in [[["ale", 1]], ({"ale": [1]},), (["ale", [W(1)]],)]:
            ahead = copy.deepcopy(thing)
            is_parts(thing)
            self.assertEqual(thing, ahead)

    def test_by_name(self):
        self.assertIs(is_parts(thing=BOTH), True)
        self.assertIs(is_parts(thing=[]), False)


class TestMade(CaskCase):
    def refused(self, error, *handed, **named):
        with self.subTest(handed=repr(handed)[:60], named=repr(named)[:60]):
            with self.assertRaises(error) as caught:
                Cask(*handed, **named)
            self.assertIs(caught.exception.__class__, error)

    def test_by_places(self):
        for parts in PARTS:
            self.is_cask(Cask("c1f", 30, parts), "c1f", 30, parts)

    def test_without_parts(self):
        for cask in [Cask("c0", 4), Cask("c0", 4, None), Cask("c0", 4, ()), Cask(mark="c0", since=4),
                     Cask("c0", 4, parts=None), Cask(since=4, mark="c0", parts=())]:
            self.is_cask(cask, "c0", 4, ())

    def test_by_names_in_any_order(self):
        for names in itertools.permutations(RIGHT):
            self.is_cask(Cask(**{name: RIGHT[name] for name in names}), "c1f", 30, BOTH)

    def test_edges(self):
        self.is_cask(Cask("c0", 0, BOTH), "c0", 0, BOTH)
        self.is_cask(Cask("cffffff", 1200, BOTH), "cffffff", 1200, BOTH)

    def test_one_field_otherwise(self):
        for name, things in WRONG.items():
            for thing in things:
                self.refused(DUE[name], **{**RIGHT, name: thing})

    def test_by_places_one_field_otherwise(self):
        right = list(RIGHT.values())
        for at, (name, things) in enumerate(WRONG.items()):
            for thing in things[::5]:
                self.refused(DUE[name], *right[:at], thing, *right[at + 1:])

    def test_several_fields_otherwise(self):
        for names in [("mark", "since"), ("mark", "parts"), ("since", "parts"), ("mark", "since", "parts")]:
            for things in itertools.product(*[WRONG[name][::23] for name in names]):
                self.refused(DUE[names[0]], **{**RIGHT, **dict(zip(names, things))})

    def test_wrong_ones_without_parts(self):
        self.refused(NoName, "ann", 4)
        self.refused(NoDay, "c0", None)
        self.refused(NoName, "c00", True, None)

    def test_falsehood_and_nought_are_no_parts(self):
        for thing in [False, 0, "", [], {}]:
            self.refused(NoWeight, "c0", 4, thing)


class TestEqual(unittest.TestCase):
    def both(self, one, other, due):
        with self.subTest(one=repr(one)[:60], other=repr(other)[:60]):
            self.assertIs(one == other, due)
            self.assertIs(other == one, due)
            self.assertIs(one != other, not due)
            self.assertIs(other != one, not due)

    def test_like_fields(self):
        cask = Cask("c1f", 30, BOTH)
        self.both(cask, cask, True)
        self.both(cask, Cask("c1f", 30, (("ale", W(14, 4)), ("rum", W(3)))), True)
        self.both(Cask("c0", 4), Cask("c0", 4, ()), True)

    def test_one_field_otherwise(self):
        cask = Cask("c1f", 30, BOTH)
        for other in [Cask("c1e", 30, BOTH), Cask("c1f", 31, BOTH), Cask("c1f", 30, (ALE,)), Cask("c1f", 30, (RUM,)),
                      Cask("c1f", 30), Cask("c1f", 30, (ALE, ("rum", W(4)))), Cask("c1f", 30, (ALE, ("rums", W(3)))),
                      Cask("c1f", 30, (("ale", W(7, 3)), RUM)), Cask("c1f", 30, (ALE, GIN, RUM)), Cask("c1", 30, BOTH)]:
            self.both(cask, other, False)

    def test_other_kinds(self):
        cask = Cask("c2", 30, BOTH)
        for other in OTHER_KINDS + ODD_TEXTS + ["c2", 30, str(cask), repr(cask), fields(cask), list(fields(cask)), BOTH]:
            self.both(cask, other, False)

    def test_in_and_count(self):
        cask, like, other = Cask("c1", 4, BOTH), Cask("c1", 4, BOTH), Cask("c1", 4, (ALE,))
        self.assertIn(cask, (other, like))
        self.assertNotIn(cask, [other, "c1", None, BOTH])
        self.assertEqual([like, other, cask, None].count(cask), 2)


class TestLen(unittest.TestCase):
    def test_how_many_parts(self):
        for parts in PARTS:
            self.assertEqual(len(Cask("c0", 4, parts)), len(parts))
        self.assertEqual(len(Cask("c0", 4)), 0)

    def test_truth(self):
        self.assertIs(bool(Cask("c0", 4)), False)
        self.assertIs(bool(Cask("c0", 0, ())), False)
        self.assertIs(bool(Cask("c0", 4, (GIN,))), True)
        self.assertIs(bool(Cask("c0", 0, BOTH)), True)


class TestShown(unittest.TestCase):
    SHOWN = [
        (("c1f", 30, BOTH), "c1f 30: ale 7/2, rum 3", "Cask('c1f', 30, (('ale', Weight(7, 2)), ('rum', Weight(3))))"),
        (("c0", 4), "c0 4:", "Cask('c0', 4, ())"),
        (("c0", 0, ()), "c0 0:", "Cask('c0', 0, ())"),
        (("cafe", 1200, (RUM,)), "cafe 1200: rum 3", "Cask('cafe', 1200, (('rum', Weight(3)),))"),
        (("c9", 1, (ALE, GIN, RUM, TEA)), "c9 1: ale 7/2, gin 1/100, rum 3, tea 1000000000000",
         "Cask('c9', 1, (('ale', Weight(7, 2)), ('gin', Weight(1, 100)), ('rum', Weight(3)), "
         "('tea', Weight(1000000000000))))"),
        (("c0", 4, (("ale", W(FORTY_NINES)),)), "c0 4: ale " + "9" * 40,
         "Cask('c0', 4, (('ale', Weight(" + "9" * 40 + ")),))"),
    ]

    def test_str_and_repr(self):
        for handed, as_text, as_repr in self.SHOWN:
            with self.subTest(as_text):
                self.assertEqual(str(Cask(*handed)), as_text)
                self.assertEqual(repr(Cask(*handed)), as_repr)

    def test_repr_reads_as_what_it_is(self):
        for parts in PARTS[:-2]:
            cask = Cask("c1f", 30, parts)
            self.assertEqual(eval(repr(cask), {"Cask": Cask, "Weight": Weight}), cask)

    def test_great_weights(self):
        great = great_weight()
        cask = Cask("c0", 4, (("ale", great),))
        self.assertEqual(str(cask), "c0 4: ale " + str(great))
        self.assertEqual(repr(cask), "Cask('c0', 4, (('ale', " + repr(great) + "),))")

    def test_within_tuples_and_lists(self):
        casks = (Cask("c1", 4, (RUM,)), Cask("c0", 4))
        shown = "Cask('c1', 4, (('rum', Weight(3)),)), Cask('c0', 4, ())"
        self.assertEqual(str(casks), "(" + shown + ")")
        self.assertEqual(repr(list(casks)), "[" + shown + "]")
        self.assertEqual(f"{casks[0]}; {casks[1]}", "c1 4: rum 3; c0 4:")


class TestByAge(CaskCase):
    # By age; marks as texts would stand otherwise.
    AGED = (Cask("cff", 0, BOTH), Cask("c0", 1), Cask("c9", 1), Cask("ca", 1, (ALE,)), Cask("c10", 1), Cask("ca0", 1),
            Cask("c100", 1), Cask("c5", 2), Cask("c3", 10, (RUM,)), Cask("c2", 100), Cask("c1", 1200, BOTH))

    def is_told(self, told, due):
        self.assertIs(told.__class__, tuple)
        self.assertEqual(told, tuple(due))
        self.assertEqual([cask.__class__ for cask in told], [Cask] * len(due))

    def test_none_and_one(self):
        self.is_told(casks_by_age(()), ())
        self.is_told(casks_by_age((Cask("c1", 4),)), (Cask("c1", 4),))

    def test_in_any_order(self):
        for casks in itertools.permutations(self.AGED[1:7]):
            self.is_told(casks_by_age(casks), self.AGED[1:7])
        self.is_told(casks_by_age(tuple(reversed(self.AGED))), self.AGED)
        self.is_told(casks_by_age(self.AGED[4:] + self.AGED[:4]), self.AGED)
        self.is_told(casks_by_age(self.AGED), self.AGED)

    def test_since_alike_by_the_numbers_of_marks(self):
        marks = ["c0", "c1", "c9", "ca", "cf", "c10", "c19", "c1a", "c90", "caa", "cff", "c100", "cfffff", "c100000"]
        due = [Cask(mark, 7) for mark in marks]
        self.is_told(casks_by_age(tuple(reversed(due))), due)
        self.is_told(casks_by_age(tuple(sorted(due, key=lambda cask: cask.mark))), due)

    def test_days_ahead_of_marks(self):
        casks = (Cask("c1", 100), Cask("c2", 20), Cask("c3", 3))
        self.is_told(casks_by_age(casks), tuple(reversed(casks)))

    def test_what_is_handed_in_stays(self):
        casks = tuple(reversed(self.AGED))
        ahead = copy.deepcopy(casks)
        casks_by_age(casks)
        self.assertEqual(casks, ahead)

    def test_by_name(self):
        self.is_told(casks_by_age(casks=tuple(reversed(self.AGED))), self.AGED)


class TestWeights(CaskCase):
    CASK = Cask("c1f", 30, (ALE, GIN, RUM))

    def no_ware(self, ask, ware):
        with self.subTest(ware=ware):
            with self.assertRaises(NoWare) as caught:
                ask()
            self.assertIs(caught.exception.__class__, NoWare)
            self.assertEqual(caught.exception.ware, ware)
            self.assertIsInstance(caught.exception, KeyError)

    def test_of_wares_that_it_has(self):
        for ask in [self.CASK.part, self.CASK.weight_of]:
            self.is_weight(ask("ale"), 7, 2)
            self.is_weight(ask("gin"), 1, 100)
            self.is_weight(ask("rum"), 3)

    def test_of_wares_that_it_has_not(self):
        for cask in [self.CASK, Cask("c0", 4), Cask("c0", 4, (TEA,))]:
            for ware in ["al", "ales", "a", "rums", "zed", "cf", "mark", "since"]:
                self.no_ware(lambda: cask.part(ware), ware)
                self.is_weight(cask.weight_of(ware), 0)

    def test_by_name(self):
        self.is_weight(self.CASK.part(ware="ale"), 7, 2)
        self.is_weight(self.CASK.weight_of(ware="ale"), 7, 2)
        self.no_ware(lambda: self.CASK.part(ware="tea"), "tea")
        self.is_weight(self.CASK.weight_of(ware="tea"), 0)


class TestLessened(CaskCase):
    CASK = Cask("c1f", 30, (ALE, GIN, RUM))

    def test_by_nought(self):
        for ware in ["ale", "gin", "rum"]:
            self.is_cask(self.CASK.lessened(ware, W(0)), "c1f", 30, (ALE, GIN, RUM))

    def test_by_a_share(self):
        self.is_cask(self.CASK.lessened("ale", W(1)), "c1f", 30, (("ale", W(5, 2)), GIN, RUM))
        self.is_cask(self.CASK.lessened("gin", W(1, 200)), "c1f", 30, (ALE, ("gin", W(1, 200)), RUM))
        self.is_cask(self.CASK.lessened("rum", W(8, 3)), "c1f", 30, (ALE, GIN, ("rum", W(1, 3))))
        self.is_cask(self.CASK.lessened("rum", W(1, FORTY_NINES)), "c1f", 30,
                     (ALE, GIN, ("rum", W(3 * FORTY_NINES - 1, FORTY_NINES))))

    def test_by_all(self):
        self.is_cask(self.CASK.lessened("ale", W(7, 2)), "c1f", 30, (GIN, RUM))
        self.is_cask(self.CASK.lessened("gin", W(1, 100)), "c1f", 30, (ALE, RUM))
        self.is_cask(self.CASK.lessened("rum", W(3)), "c1f", 30, (ALE, GIN))
        self.is_cask(Cask("c1", 4, (RUM,)).lessened("rum", W(3)), "c1", 4, ())

    def test_step_by_step(self):
        cask = self.CASK
        for _ in range(7):
            cask = cask.lessened("ale", W(1, 2))
        self.is_cask(cask, "c1f", 30, (GIN, RUM))

    def test_by_more(self):
        for ware, weight, lacks in [("ale", W(4), W(1, 2)), ("gin", W(1), W(99, 100)), ("rum", W(10 ** 12), W(10 ** 12 - 3)),
                                    ("ale", W(7 * FORTY_NINES + 1, 2 * FORTY_NINES), W(1, 2 * FORTY_NINES))]:
            with self.subTest(ware=ware, weight=weight):
                with self.assertRaises(Short) as caught:
                    self.CASK.lessened(ware, weight)
                self.assertIs(caught.exception.__class__, Short)
                self.is_weight(caught.exception.lacks, lacks.top, lacks.bottom)

    def test_of_a_ware_that_it_has_not(self):
        for cask in [self.CASK, Cask("c0", 4)]:
            for ware in ["al", "ales", "tea", "a"]:
                for weight in [W(0), W(1, 100), W(3), W(10 ** 12)]:
                    with self.subTest(cask=cask, ware=ware, weight=weight):
                        with self.assertRaises(NoWare) as caught:
                            cask.lessened(ware, weight)
                        self.assertIs(caught.exception.__class__, NoWare)
                        self.assertEqual(caught.exception.ware, ware)

    def test_the_cask_stays(self):
        cask = Cask("c1f", 30, (ALE, GIN, RUM))
        cask.lessened("ale", W(1))
        cask.lessened("ale", W(7, 2))
        with self.assertRaises(Short):
            cask.lessened("ale", W(4))
        with self.assertRaises(NoWare):
            cask.lessened("tea", W(1))
        self.is_cask(cask, "c1f", 30, (("ale", W(7, 2)), ("gin", W(1, 100)), ("rum", W(3))))

    def test_great_weights(self):
        great = great_weight()
        cask = Cask("c1", 4, (("ale", great.plus(W(1, 3))), RUM))
        self.is_cask(cask.lessened("ale", great), "c1", 4, (("ale", W(1, 3)), RUM))
        self.is_cask(cask.lessened("ale", W(1, 3)), "c1", 4, (("ale", great), RUM))

    def test_by_name_and_by_place(self):
        due = ("c1f", 30, (("ale", W(5, 2)), GIN, RUM))
        self.is_cask(self.CASK.lessened(ware="ale", weight=W(1)), *due)
        self.is_cask(self.CASK.lessened(weight=W(1), ware="ale"), *due)
        self.is_cask(self.CASK.lessened("ale", weight=W(1)), *due)


if __name__ == "__main__":
    unittest.main()
