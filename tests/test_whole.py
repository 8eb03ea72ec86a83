"""Promises 2 and 3 over the whole: refusals by their classes; stores, books and desks side by side and by turns."""

import copy
import unittest

from casknotes import errors
from casknotes.books import Book
from casknotes.booktexts import read_book, show_book
from casknotes.casks import Cask
from casknotes.deeds import done, is_deed
from casknotes.desk import Desk
from casknotes.drying import dried
from casknotes.errors import CaskError, NoNote, NoWare
from casknotes.findings import finding_holds
from casknotes.joining import joined
from casknotes.notes import Note
from casknotes.paying import few_notes
from casknotes.shares import shares_of
from casknotes.stores import Store
from casknotes.sums import sums_of
from casknotes.takings import taking
from casknotes.weights import Weight, read_weight
from booking import DRYING, TALE, book_of, write
from model import Model
from rows import DRYINGS, HOW_OFTEN, MARKS, NAMES, Rows, Teller, WARES
from storing import StoreCase, crowded, everything, filled
from test_errors import ABOVE, FIELDS, OF_PYTHON, all_above, class_of
from things import FORTY_NINES

W = Weight
ALE = (("ale", W(1)),)
CASK = Cask("c1", 0, ALE)

# For each class all that can be refused so, and what its field is.
REFUSALS = {
    "NoName": [(lambda: Note("Ann", "ale", 1), None), (lambda: Note("ann", 1, 1), None), (lambda: Cask("ann", 0), None),
               (lambda: filled().cask(10, "ann", ()), None), (lambda: filled().make(10, "c1", "ale", 1), None),
               (lambda: filled().make(10, "fay", "c1", 1), None), (lambda: filled().merge(10, ("ann", "bo"), None), None),
               (lambda: filled().part(10, "ann", (("c1", 5), ("fay", 7))), None), (lambda: filled().lose(10, "ann", 1), None),
               (lambda: filled().pay(10, ("ann",), 1), None), (lambda: done(filled(), 10, ("pay", ("ann",), 1, None)), None)],
    "NoGrains": [(lambda: Note("ann", "ale", 0), None), (lambda: filled().make(10, "fay", "ale", True), None),
                 (lambda: filled().part(10, "ann", (("fay", 0), ("gus", 12))), None), (lambda: filled().pay(10, ("ann",), 0), None)],
    "NoDay": [(lambda: Note("ann", "ale", 1, -1), None), (lambda: Cask("c1", True), None), (lambda: filled().draw(1201, "ann"), None),
              (lambda: filled().stock("ale", -1), None), (lambda: filled().excess("1"), None), (lambda: Book().tell(-1, None), None),
              (lambda: done(filled(), None, ("draw", "ann")), None)],
    "NoWeight": [(lambda: W(-1), None), (lambda: W(1, True), None), (lambda: Cask("c1", 0, 7), None), (lambda: W(1).times(-1), None),
                 (lambda: filled().cask(10, "c3", None), None), (lambda: filled().weigh(10, "c1", None), None),
                 (lambda: filled().burn(10, "c1", "ale", W(0)), None)],
    "NoDeed": [(lambda: Book().tell(0, ("draw",)), None)],
    "NoRow": [(lambda: Desk().say("draw"), None), (lambda: Desk().say(None), None), (lambda: Desk().say("stock Ale"), None),
              (lambda: Desk().say("strike 01"), None), (lambda: Desk().say("result " + "1" * 41), None)],
    "NoText": [(lambda: read_weight("2/4"), 0), (lambda: read_book("drying\n\n"), 1), (lambda: read_book(None), 0)],
    "NoMark": [(lambda: filled().weigh(10, "c7", ()), "c7"), (lambda: filled().burn(10, None, "ale", W(1)), None),
               (lambda: filled().send(10, 7), 7), (lambda: filled().fire(10, ("c1", "c3")), "c3"),
               (lambda: done(filled(), 10, ("weigh", "c7", ())), "c7")],
    "NoNote": [(lambda: filled().draw(10, "fay"), "fay"), (lambda: filled().fate("fay"), "fay"), (lambda: filled().lose(10, 1, "x"), 1),
               (lambda: filled().part(10, "max", ()), "max"), (lambda: filled().merge(10, ("ann", "fay"), "x"), "fay"),
               (lambda: filled().pay(10, ("fay",), 1), "fay"), (lambda: filled().send(10, "c1", "fay"), "fay"),
               (lambda: Desk().say("fate Ann"), "Ann")],
    "LostNote": [(lambda: filled().draw(10, "lou"), "lou"), (lambda: filled().send(10, "c1", "lou"), "lou"),
                 (lambda: filled().pay(10, ("ann", "lou"), 1), "lou"), (lambda: filled().lose(10, "lou", "x"), "lou")],
    "NotBorne": [(lambda: filled().make(10, "fay", "ale", 9), W(1)), (lambda: filled().send(10, "ca"), W(5)),
                 (lambda: done(filled(), 10, ("make", "fay", "tea", 9)), W(9))],
    "Short": [(lambda: W(1).less(W(3, 2)), W(1, 2)), (lambda: CASK.lessened("ale", W(3)), W(2)), (lambda: taking((CASK,), "ale", 4), W(3)),
              (lambda: filled().burn(10, "c9", "ale", W(4)), W(1)),
              (lambda: filled().draw(300, "ann"), W(12).less(W(33).times(9 ** 10, 10 ** 10)))],
    "Twice": [(lambda: filled().cask(10, "c7", ()), "c7"), (lambda: filled().make(10, "lou", "ale", 1), "lou"),
              (lambda: filled().lose(10, "ann", "bo"), "bo"), (lambda: joined(filled(), filled()), "ann"),
              (lambda: filled().part(10, "ann", (("x", 5), ("x", 7))), "x")],
    "TooLate": [(lambda: filled().draw(9, "ann"), 10), (lambda: filled().stock("ale", 0), 10), (lambda: filled().excess(9), 10),
                (lambda: done(filled(), 9, ("draw", "ann")), 10)],
    "NoSum": [(lambda: filled().part(10, "ann", (("x", 5), ("y", 8))), None), (lambda: filled().merge(10, ("ann", "cy"), "x"), None),
              (lambda: filled().pay(10, ("ann", "cy"), 1), None), (lambda: filled().pay(10, ("ann",), 13), None)],
    "Full": [(lambda: crowded().cask(10, "c3", ()), None), (lambda: crowded().make(10, "fay", "ale", 1), None),
             (lambda: joined(crowded(), one_cask()), None)],
    "NotAlike": [(lambda: joined(filled(), Store()), None)],
    "NoWhole": [(lambda: W(1, 0), None), (lambda: W(None, 0), None), (lambda: W(1).times(1, 0), None)],
    "NoWare": [(lambda: CASK.part("gin"), "gin"), (lambda: CASK.lessened("gin", W(0)), "gin"),
               (lambda: filled().burn(10, "c1", None, W(1)), None), (lambda: done(filled(), 10, ("burn", "c9", "gin", W(1))), "gin")],
    "NoPlace": [(lambda: Book().strike(0), 0), (lambda: Book().deed("0"), "0"), (lambda: Desk().say("strike 7"), 7),
                (lambda: Desk().say("result " + "9" * 40), FORTY_NINES)],
}


def one_cask():
    store = Store(filled().standing.drying)
    store.cask(0, "cfff", ())
    return store


class TestRefusals(StoreCase):
    def test_each_is_taken_by_its_own_class_and_those_above_it_alone(self):
        # Wrong, Unknown, Unborne and CaskError stand above others, and nothing is refused with just one of them.
        self.assertEqual(set(REFUSALS), set(ABOVE) - {"CaskError", "Wrong", "Unknown", "Unborne"})
        for name, rows in REFUSALS.items():
            above = all_above(name)
            for at, (ask, _) in enumerate(rows):
                for other in [class_of(other) for other in ABOVE] + OF_PYTHON:
                    with self.subTest(name=name, at=at, other=other.__name__):
                        self.assertIs(self.taken(ask, other), other in above)

    def taken(self, ask, kind):
        """Whether what is refused is taken by this class."""
        try:
            ask()
        except kind:
            return True
        except Exception:
            return False
        return None

    def test_its_field(self):
        for name, rows in REFUSALS.items():
            for at, (ask, field) in enumerate(rows):
                with self.subTest(name=name, at=at):
                    with self.assertRaises(class_of(name)) as caught:
                        ask()
                    self.assertIs(caught.exception.__class__, class_of(name))
                    if name in FIELDS:
                        self.is_just(getattr(caught.exception, FIELDS[name]), field)

    def test_a_books_results_tell_their_names(self):
        for name in ["NoName", "NoMark", "NoNote", "LostNote", "NotBorne", "Short", "Twice", "NoSum", "NoWare"]:
            told = [came for _, was_done, came in book_of(TALE, DRYING).results() if not was_done]
            self.assertIn(name, told)
            self.assertIs(getattr(errors, name), class_of(name))


class Together(Rows):
    """A store, a book and a desk that are told the same deeds."""

    def begin(self, seed, marks=MARKS, names=NAMES):
        drying = DRYINGS[seed % len(DRYINGS)]
        return {"drying": drying, "store": Store(drying), "book": Book(drying), "desk": Desk(drying),
                "model": Model(drying, 0), "teller": Teller(seed, marks, names), "rows": [], "came": []}

    def tell(self, all_three):
        """One deed by chance, on a day that is no less, told to all."""
        teller, model = all_three["teller"], all_three["model"]
        word = teller.chance.choice(HOW_OFTEN)
        deed = (word,) + teller.deed(word, model)
        if not is_deed(deed):
            return
        last = all_three["rows"][-1][0] if all_three["rows"] else 0
        day = max(last, teller.day(model.day))
        due = self.due(model, day, word, deed[1:])
        came = came_of(all_three["store"], day, deed)
        self.assertEqual(came[0], due[0])
        number = all_three["book"].tell(day, deed)
        self.is_just(number, len(all_three["rows"]))
        self.is_just(all_three["desk"].say(write(day, deed)), str(number))
        all_three["rows"].append((day, deed))
        all_three["came"].append((number, *came))

    def alike_all(self, all_three):
        """What they say is the same."""
        store, book, desk, rows = [all_three[name] for name in ["store", "book", "desk", "rows"]]
        self.alike(store, all_three["model"])
        self.assertTrue(book.store() == store)
        self.assertEqual(everything(book.store()), everything(store))
        self.is_just(book.results(), tuple(all_three["came"]))
        self.is_just(desk.say("day"), str(store.today()))
        for word, things in [("notes", store.notes()), ("casks", store.casks()), ("excess", store.excess())]:
            self.is_just(desk.say(word), "; ".join([str(thing) for thing in things]) or "none")
        for ware in WARES:
            self.is_just(desk.say("stock " + ware), str(store.stock(ware)))
        for name in NAMES[::4]:
            try:
                self.is_just(desk.say("fate " + name), store.fate(name))
            except NoNote:
                self.assertRaises(NoNote, store.fate, name)
        for number, was_done, told in all_three["came"][-3:]:
            self.is_just(desk.say(f"result {number}"), "ok" if was_done else told)
        text = "\n".join([show_book(Book(all_three["drying"]))] + [write(day, deed) for day, deed in rows])
        self.is_just(show_book(book), text)
        self.is_just(desk.say("book"), text.replace("\n", " | "))


def came_of(store, day, deed):
    try:
        return True, done(store, day, deed)
    except (CaskError, NoWare) as error:
        return False, error.__class__.__name__


class TestSideBySide(Together):
    def test_long_rows_told_to_a_store_a_book_and_a_desk(self):
        for seed in range(16):
            all_three = self.begin(seed)
            for many in range(70):
                self.tell(all_three)
                if many % 5 == 0:
                    self.alike_all(all_three)
            self.alike_all(all_three)
            self.assertTrue(finding_holds(("book", show_book(all_three["book"]), tuple(all_three["came"]))))

    def test_two_by_turns(self):
        for seed in range(6):
            one = self.begin(seed * 4, MARKS[:6], NAMES[:12])
            other = self.begin(seed * 4 + (seed % 2), MARKS[6:12], NAMES[12:24])
            for many in range(50):
                self.tell(one)
                self.tell(other)
                if many % 10 == 9:
                    self.alike_all(one)
                    self.alike_all(other)
            if one["drying"] == other["drying"]:
                both = joined(one["store"], other["store"])
                self.assertTrue(both == joined(other["book"].store(), one["book"].store()))
            self.alike_all(one)
            self.alike_all(other)


class TestToldLate(Together):
    def test_in_several_orders_of_days(self):
        for seed in range(12):
            all_three = self.begin(seed)
            for _ in range(60):
                self.tell(all_three)
            chance, rows = all_three["teller"].chance, all_three["rows"]
            days = sorted({day for day, _ in rows})
            for order in [days, days[::-1]] + [chance.sample(days, len(days)) for _ in range(4)]:
                told = [at for day in order for at, row in enumerate(rows) if row[0] == day]
                book, desk = Book(all_three["drying"]), Desk(all_three["drying"])
                for number, at in enumerate(told):
                    self.is_just(book.tell(*rows[at]), number)
                    self.is_just(desk.say(write(*rows[at])), str(number))
                self.assertTrue(book == all_three["book"])
                self.assertTrue(book.store() == all_three["store"])
                self.is_just(book.results(), tuple([(number, *all_three["came"][at][1:]) for number, at in enumerate(told)]))
                self.assertEqual(show_book(book), show_book(all_three["book"]))
                self.assertEqual(desk.say("book"), all_three["desk"].say("book"))
                self.assertEqual(desk.say("notes"), all_three["desk"].say("notes"))

    def test_struck_as_though_never_told(self):
        for seed in range(8):
            all_three = self.begin(seed)
            for _ in range(60):
                self.tell(all_three)
            chance, rows, book, desk = all_three["teller"].chance, all_three["rows"], all_three["book"], all_three["desk"]
            gone = sorted(chance.sample(range(len(rows)), len(rows) // 3))
            for number in gone:
                book.strike(number)
                self.is_just(desk.say(f"strike {number}"), "ok")
            left = [at for at in range(len(rows)) if at not in gone]
            like = book_of([rows[at] for at in left], all_three["drying"])
            self.assertTrue(book == like)
            self.assertTrue(book.store() == like.store())
            self.is_just(book.results(), tuple([(left[number], *came) for number, *came in like.results()]))
            self.assertEqual(desk.say("book"), show_book(like).replace("\n", " | "))
            self.assertTrue(read_book(show_book(book)) == book)
            self.is_just(read_book(show_book(book)).results(), like.results())


class TestFindingsOfTheWhole(Together):
    def test_whatever_is_told_holds(self):
        for seed in range(10):
            all_three = self.begin(seed)
            for _ in range(40):
                self.tell(all_three)
                store = all_three["store"]
                casks = store.casks()
                for ware in WARES:
                    notes, stock = tuple([note for note in store.notes() if note.ware == ware]), store.stock(ware)
                    self.assertTrue(finding_holds(("sums", notes, stock, sums_of(notes, stock))))
                    loss = stock.times(1, 3)
                    self.assertTrue(finding_holds(("shares", loss, stock, notes, shares_of(loss, stock, notes))))
                    if stock.whole_up() > 1:
                        grains = stock.whole_up() - 1
                        self.assertTrue(finding_holds(("taking", casks, ware, grains, taking(casks, ware, grains))))
                    grains = tuple([note.grains for note in notes])[:8]
                    if grains:
                        due = max(1, sum(grains) - 2)
                        self.assertTrue(finding_holds(("few", grains, due) + few_notes(grains, due)))

    def test_asked_again_the_same_is_told(self):
        book = book_of(TALE, DRYING)
        ahead = copy.deepcopy(book)
        for _ in range(3):
            self.is_just(book.results(), ahead.results())
            self.assertEqual(everything(book.store()), everything(ahead.store()))
            self.is_just(show_book(book), show_book(ahead))
        cask = book.store().casks()
        self.assertEqual([dried(one, DRYING, 3) for one in cask], [dried(one, DRYING, 3) for one in cask])
        self.assertTrue(book == ahead)


if __name__ == "__main__":
    unittest.main()
