"""Promise 24: books written in rows and read back."""

import copy
import random
import unittest

from casknotes.books import Book
from casknotes.booktexts import read_book, show_book
from casknotes.errors import NoText
from casknotes.weights import Weight
from booking import DRYING, TALE, BookCase, book_of, drying_told, row_told, text_told, write
from deeding import DEEDS, FORMS
from things import FORTY_NINES, ODD_TEXTS, OTHER_KINDS, great_weight

W = Weight
TWELVE = 10 ** 12 - 1

# Each deed and the row that writes it, on day 30.
ROWS = [
    (("cask", "c1", ()), "30 cask c1"), (("cask", "c1f", (("ale", W(20)),)), "30 cask c1f ale 20"),
    (("cask", "c0", (("ale", W(7, 2)), ("rum", W(TWELVE, TWELVE - 1)))), "30 cask c0 ale 7/2 rum 999999999999/999999999998"),
    (("cask", "cffffff", tuple([(ware, W(1, 3)) for ware in "abcd"])), "30 cask cffffff a 1/3 b 1/3 c 1/3 d 1/3"),
    (("weigh", "c1", ()), "30 weigh c1"), (("weigh", "c1", (("ale", W(1, 2)), ("rum", W(3)))), "30 weigh c1 ale 1/2 rum 3"),
    (("burn", "c1", "ale", W(5)), "30 burn c1 ale 5"), (("burn", "ca", "c", W(5, TWELVE)), "30 burn ca c 5/999999999999"),
    (("make", "ann", "ale", 12), "30 make ann ale 12"), (("make", "c", "make", TWELVE), "30 make c make 999999999999"),
    (("part", "ann", (("fay", 5), ("gus", 7))), "30 part ann fay 5 gus 7"),
    (("part", "ann", (("c", 1), ("ann", 2), ("b", TWELVE))), "30 part ann c 1 ann 2 b 999999999999"),
    (("merge", ("ann", "bo"), "fay"), "30 merge fay ann bo"), (("merge", ("c", "b", "a"), "a"), "30 merge a c b a"),
    (("lose", "ann", "fay"), "30 lose ann fay"), (("draw", "ann"), "30 draw ann"), (("draw", "drying"), "30 draw drying"),
    (("send", "c1", None), "30 send c1 -"), (("send", "c1", "ann"), "30 send c1 ann"),
    (("pay", ("ann",), 12, None), "30 pay 12 - ann"), (("pay", ("bo", "ann"), TWELVE, "fay"), "30 pay 999999999999 fay bo ann"),
    (("fire", ("c1",)), "30 fire c1"), (("fire", ("c2", "c1", "ca")), "30 fire c2 c1 ca"),
]
DRYINGS = [((), "drying"), ((("ale", 1, 10),), "drying ale 1/10"), ((("ale", 2, 4), ("rum", 0, 7)), "drying ale 2/4 rum 0/7"),
           ((("a", 0, 1), ("b", 99, 100), ("c", 50, 100), ("drying", 1, 2)), "drying a 0/1 b 99/100 c 50/100 drying 1/2")]


class TextCase(BookCase):
    def reads(self, text, drying, rows):
        """The text writes a book of just this drying and these (day, deed)s, numbered by rows."""
        with self.subTest(text=text[:100]):
            book = read_book(text)
            self.assertIs(book.__class__, Book)
            self.assertTrue(book == book_of(rows, drying))
            self.is_just(len(book), len(rows))
            for number, row in enumerate(rows):
                self.is_just(book.deed(number), row)
            self.is_just(book.tell(1200, ("draw", "ann")), len(rows))
            self.is_just(show_book(read_book(text)), text)
            self.is_just(show_book(book_of(rows, drying)), text)

    def no_text(self, text, row):
        with self.subTest(text=repr(text)[:120]):
            with self.assertRaises(NoText) as caught:
                read_book(text)
            self.assertIs(caught.exception.__class__, NoText)
            self.is_just(caught.exception.row, row)

    def judged(self, text):
        """It is read as the document tells it, or refused with the first row that isn't so."""
        due = text_told(text)
        if due.__class__ is int:
            self.no_text(text, due)
        else:
            self.reads(text, *due)
        return due.__class__ is not int


class TestRows(TextCase):
    def test_each_of_the_eleven(self):
        self.assertEqual({deed[0] for deed, _ in ROWS}, set(FORMS))
        for deed, row in ROWS:
            self.assertEqual(write(30, deed), row)
            self.assertEqual(row_told(row), (30, deed))
            self.reads("drying\n" + row, (), [(30, deed)])

    def test_all_of_them_in_one_book(self):
        self.reads("\n".join(["drying"] + [row for _, row in ROWS]), (), [(30, deed) for deed, _ in ROWS])

    def test_dryings(self):
        for drying, row in DRYINGS:
            self.assertEqual(drying_told(row), drying)
            self.reads(row, drying, [])
            self.reads(row + "\n0 draw ann", drying, [(0, ("draw", "ann"))])

    def test_an_empty_book(self):
        for drying in [None, ()]:
            self.is_just(show_book(Book(drying)), "drying")
        self.reads("drying", (), [])
        struck = book_of(TALE)
        for number in range(len(TALE)):
            struck.strike(number)
        self.is_just(show_book(struck), "drying")

    def test_days(self):
        for day in [0, 1, 9, 10, 30, 999, 1000, 1199, 1200]:
            self.reads(f"drying\n{day} draw ann", (), [(day, ("draw", "ann"))])
        self.reads("drying\n0 draw a\n0 draw b\n1 draw c\n1 draw c\n1200 draw d",
                   (), [(0, ("draw", "a")), (0, ("draw", "b")), (1, ("draw", "c")), (1, ("draw", "c")), (1200, ("draw", "d"))])

    def test_by_their_days_those_of_a_day_in_their_order(self):
        book = Book(DRYING)
        for day, name in [(30, "a"), (2, "b"), (30, "c"), (100, "d"), (2, "a"), (0, "z"), (9, "y")]:
            book.tell(day, ("draw", name))
        book.strike(2)
        self.is_just(show_book(book), "drying ale 1/10 rum 1/2\n0 draw z\n2 draw b\n2 draw a\n9 draw y\n30 draw a\n100 draw d")
        again = read_book(show_book(book))
        self.assertTrue(again == book)
        self.is_just([again.deed(number)[1][1] for number in range(6)], ["z", "b", "a", "y", "a", "d"])

    def test_the_tale(self):
        book = book_of(TALE, DRYING)
        rows = ["drying ale 1/10 rum 1/2"] + [write(day, deed) for day, deed in TALE]
        self.is_just(show_book(book), "\n".join(rows))
        self.reads("\n".join(rows), DRYING, TALE)
        self.is_just(read_book("\n".join(rows)).results(), book.results())

    def test_right_deeds(self):
        for deed in DEEDS:
            text = show_book(book_of([(5, deed)]))
            if text_told(text).__class__ is int:
                # Their numbers have more than twelve figures.
                self.no_text(text, 1)
            else:
                self.reads(text, (), [(5, deed)])

    def test_refused_deeds_are_written_too(self):
        self.reads("drying\n3 draw ann\n3 burn c1 ale 1", (), [(3, ("draw", "ann")), (3, ("burn", "c1", "ale", W(1)))])


class TestNumbers(TextCase):
    def test_of_twelve_and_of_thirteen_figures(self):
        for row in ["3 make a b {}", "3 pay {} - a", "3 part a b {} c 1", "3 part a b 1 c {}", "3 burn c1 a {}",
                    "3 cask c1 a {}", "3 weigh c1 a {}", "3 burn c1 a 1/{}", "3 burn c1 a {}/17", "3 cask c1 a 1/{}"]:
            for number, due in [(10 ** 11, True), (TWELVE, True), (10 ** 12, False), (10 ** 12 + 1, False),
                                (FORTY_NINES, False)]:
                self.assertIs(self.judged("drying\n" + row.format(number)), due)

    def test_great_ones_are_written_and_not_read(self):
        for deed in [("make", "a", "b", 10 ** 12), ("pay", ("a",), FORTY_NINES, None), ("burn", "c1", "a", W(1, 10 ** 12)),
                     ("part", "a", (("b", 1), ("c", FORTY_NINES)))]:
            text = show_book(book_of([(3, ("draw", "a")), (3, deed)]))
            self.is_just(text, "drying\n3 draw a\n" + write(3, deed))
            self.no_text(text, 2)
        great = great_weight()
        text = show_book(book_of([(3, ("burn", "c1", "a", great))]))
        self.assertTrue(text == f"drying\n3 burn c1 a {great}")
        self.assertGreater(len(text), 10000)
        self.no_text(text, 1)
        grains = great.whole_up() * great.top
        text = show_book(book_of([(3, ("make", "a", "b", grains))]))
        self.assertTrue(text == f"drying\n3 make a b {W(grains)}")
        self.no_text(text, 1)

    def test_noughts_ahead_signs_and_others(self):
        for word in ["00", "01", "012", "+1", "-1", "-0", "1.0", "1e1", "0x1", "1_0", "1,0", "one", "-", "", "/", "1/",
                     "/1", "1/0", "0/1", "2/4", "3/1", "01/2", "1/02", "1//2", "1/2/3", "7 /2", "a", "0"]:
            for row in ["3 make a b {}", "3 pay {} - a", "3 part a b {} c 1", "3 burn c1 a {}", "3 cask c1 a {}",
                        "3 weigh c1 a 1 b {}", "{} draw a"]:
                due = self.judged("drying\n" + row.format(word))
                self.assertIs(due, (word, row) == ("0", "{} draw a"))

    def test_weights_in_lowest_terms(self):
        for top in range(8):
            for bottom in range(8):
                for row in ["3 burn c1 a {}/{}", "3 cask c1 a {}/{} b 1"]:
                    self.judged("drying\n" + row.format(top, bottom))


class TestSpoiled(TextCase):
    def test_each_row_at_each_word(self):
        others = ["", "-", "0", "1", "01", "7/2", "ann", "bo", "Ann", "annannann", "c1", "c01", "C1", "cg", "cabcabc",
                  "ale", "a-b", "draw", "drying", "1201", "9999999999999", "(", "\t", "ann\t"]
        seen = {True: 0, False: 0}
        for _, row in ROWS:
            words = row.split(" ")
            for at in range(len(words)):
                changed = [words[:at] + words[at + 1:], words[:at] + [words[at]] + words[at:]]
                changed += [words[:at] + [other] + words[at + 1:] for other in others]
                changed += [words[:at] + [other] + words[at:] for other in others]
                changed += [words[:at] + [other] for other in ["0" + words[at], words[at] + "0", words[at] + "a", "+" + words[at]]]
                for one in changed:
                    seen[self.judged("drying\n" + " ".join(one))] += 1
            for other in others:
                seen[self.judged("drying\n" + " ".join(words + [other]))] += 1
        self.assertGreater(min(seen.values()), 100)

    def test_blanks(self):
        for _, row in ROWS + DRYINGS:
            first = row.startswith("drying")
            ahead = "" if first else "drying\n"
            at = 0 if first else 1
            for changed in [" " + row, row + " ", row.replace(" ", "  ", 1), row.replace(" ", "\t", 1), row + "\t",
                            row + "\r", row + " -", row.replace(" ", "", 1), row.upper(), "-" + row]:
                if changed != row:
                    self.no_text(ahead + changed, at)
            for place in [place for place, sign in enumerate(row) if sign == " "]:
                self.no_text(ahead + row[:place] + " " + row[place:], at)

    def test_words_exchanged(self):
        for _, row in ROWS:
            words = row.split(" ")
            for at in range(len(words) - 1):
                changed = list(words)
                changed[at], changed[at + 1] = changed[at + 1], changed[at]
                self.judged("drying\n" + " ".join(changed))

    def test_names_and_marks_twice(self):
        for row in ["3 merge a b b", "3 merge a b c b", "3 merge a b", "3 merge a", "3 pay 3 - a a", "3 pay 3 a b b",
                    "3 pay 3 -", "3 pay 3", "3 pay", "3 fire", "3 fire c1 c1", "3 fire c1 c2 c1", "3 part a b 1 b 2",
                    "3 part a b 1", "3 part a", "3 part a b", "3 part a b 1 c", "3 cask c1 a 1 a 2", "3 cask c1 b 1 a 2",
                    "3 cask c1 a 1 b 1 c 1 d 1 e 1", "3 cask c1 a", "3 cask", "3 weigh", "3 weigh c1 a 1 b", "3 lose a",
                    "3 lose a -", "3 lose a b c", "3 draw", "3 draw -", "3 draw a b", "3 send c1", "3 send - c1",
                    "3 send c1 - -", "3 burn c1 a", "3 burn c1", "3 burn c1 a 1 b 1", "3 make a b", "3 make a b -",
                    "3 make a b 1 1", "3", "", " ", "3 ", " 3", "draw a", "3 - a", "3 told a", "3 Draw a", "drying",
                    "drying a 1/2", "3 merge - a b", "3 pay - - a", "3 pay 3 - -", "3 cask - a 1", "3 fire -"]:
            self.no_text("drying\n" + row, 1)
            self.no_text("drying\n2 draw a\n" + row + "\n3 draw a", 2)
            self.assertEqual(text_told("drying\n" + row), 1)

    def test_dryings(self):
        for row in ["", "drying ", " drying", "Drying", "dryin", "drying a", "drying a 1", "drying a 1/2 b", "drying a 1 2",
                    "drying a 1/2/3", "drying a 1/1", "drying a 2/1", "drying a 0/0", "drying a 1/101", "drying a 01/2",
                    "drying a 1/02", "drying a +1/2", "drying a -1/2", "drying a /2", "drying a 1/", "drying A 1/2",
                    "drying b 1/2 a 1/2", "drying a 1/2 a 1/3", "drying a 1/2 b 1/2 c 1/2 d 1/2 e 1/2", "drying a  1/2",
                    "drying a 1/2 ", "drying 1/2 a", "drying -", "drying a 1/2 -", "drying c1 1/2", "a 1/2", "0 draw a",
                    "drying a 1/1000000000000", "drying a 0/0100", "drying a /", "drying / a", "dryingdry a 1/2"]:
            self.no_text(row, 0)
            self.no_text(row + "\n0 draw a", 0)
            self.no_text(row + "\n0 drow a", 0)
            self.assertIsNone(drying_told(row))

    def test_a_day_less_than_that_of_the_row_ahead(self):
        self.no_text("drying\n5 draw a\n4 draw b", 2)
        self.no_text("drying\n5 draw a\n5 draw a\n6 draw a\n5 draw b\n4 draw b\n7 draw", 4)
        self.no_text("drying\n1 draw a\n0 draw b", 2)
        self.no_text("drying\n10 draw a\n9 draw b", 2)
        self.no_text("drying\n1200 draw a\n1199 draw b", 2)
        self.no_text("drying\n1201 draw a\n1200 draw b", 1)
        self.no_text("drying\n5 draw a\n6 draw\n4 draw b", 2)

    def test_a_last_line_end_and_empty_rows(self):
        self.no_text("drying\n", 1)
        self.no_text("drying\n0 draw a\n", 2)
        self.no_text("drying\n0 draw a\n\n0 draw a", 2)
        self.no_text("drying\n\n0 draw a", 1)
        self.no_text("\ndrying", 0)
        self.no_text("\n", 0)
        self.no_text("\n\n\n", 0)
        self.no_text("drying\r\n0 draw a", 0)
        self.no_text("drying\n0 draw a\r\n0 draw a", 1)

    def test_of_two_spoilt_rows_the_first(self):
        rows = ["drying"] + [row for _, row in ROWS]
        for at in range(len(rows)):
            for other in range(at, len(rows)):
                changed = list(rows)
                changed[other] += " "
                changed[at] = "-"
                self.no_text("\n".join(changed), at)

    def test_of_no_text(self):
        for thing in OTHER_KINDS + [0, 1, -1, FORTY_NINES, Book(), ("drying",), ["drying"], {"drying": 0}]:
            self.no_text(thing, 0)
        self.no_text("", 0)
        for text in ODD_TEXTS:
            self.no_text(text, 0)
        for text in ODD_TEXTS[1:]:
            self.no_text("drying\n" + text, 1)

    def test_long_texts_that_are_none(self):
        self.no_text("drying\n" + "0 draw a\n" * 800, 801)
        self.no_text("drying" + " a 1/2" * 1200, 0)
        self.no_text("drying\n0 fire" + " c1" * 2600, 1)
        self.no_text("drying\n0 make a b " + "9" * 7980, 1)
        self.no_text("drying\n" + "0" * 7990, 1)
        self.no_text("drying" + "\n" * 7990, 1)
        self.no_text("drying\n" + "9" * 7980 + " draw a", 1)


class TestRoundAbout(TextCase):
    def test_long_books(self):
        chance = random.Random(24)
        deeds = [deed for deed, _ in ROWS]
        for many in [60, 300, 800]:
            rows = [(chance.randint(0, 1200), chance.choice(deeds)) for _ in range(many)]
            book = book_of(rows, DRYING)
            text = show_book(book)
            again = read_book(text)
            self.assertTrue(again == book and book == again)
            self.is_just(show_book(again), text)
            rising = sorted(rows, key=lambda row: row[0])
            self.assertTrue(all([again.deed(number) == row for number, row in enumerate(rising)]))
            self.assertTrue(again.store() == book.store())
            self.assertEqual(text, "\n".join(["drying ale 1/10 rum 1/2"] + [write(day, deed) for day, deed in rising]))

    def test_told_late_and_struck(self):
        chance = random.Random(25)
        for _ in range(20):
            book = book_of(chance.sample(TALE, len(TALE)), chance.choice([None, DRYING]))
            for number in chance.sample(range(len(TALE)), 9):
                book.strike(number)
            text = show_book(book)
            self.assertTrue(read_book(text) == book)
            self.is_just(show_book(read_book(text)), text)

    def test_it_stays_as_it_was(self):
        book = book_of(TALE[::-1], DRYING)
        ahead = copy.deepcopy(book)
        self.is_just(show_book(book), show_book(book))
        self.assertTrue(book == ahead)
        self.is_just(book.results(), ahead.results())

    def test_each_read_book_is_the_askers_own(self):
        text = "drying\n0 cask c1 ale 5"
        one, other = read_book(text), read_book(text)
        one.tell(1, ("make", "ann", "ale", 4))
        one.strike(0)
        self.reads(show_book(other), (), [(0, ("cask", "c1", (("ale", W(5)),)))])

    def test_by_name_and_by_place(self):
        self.is_just(show_book(book=Book(DRYING)), "drying ale 1/10 rum 1/2")
        self.assertTrue(read_book(text="drying ale 1/10 rum 1/2") == Book(DRYING))
        with self.assertRaises(NoText):
            read_book(text=None)


if __name__ == "__main__":
    unittest.main()
