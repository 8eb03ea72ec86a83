"""Promise 25: a desk, a book that is told rows and answers in texts."""

import copy
import random
import unittest

from casknotes.booktexts import show_book
from casknotes.desk import Desk
from casknotes.errors import NoNote, NoPlace, NoRow
from casknotes.weights import Weight
from booking import DRYING, NAMES, TALE, book_of, row_told, told_by_hand, write
from storing import ANYTHING, StoreCase
from test_booktexts import ROWS
from things import FORTY_NINES

W = Weight
WARES = ["ale", "gin", "rum", "tea", "zed", "c", "zedzedze"]
QUESTIONS = ["day", "notes", "casks", "excess", "book"]


class DeskCase(StoreCase):
    def desk(self, rows=TALE, drying=DRYING):
        """A desk that was told these (day, deed)s."""
        desk = Desk(drying)
        for number, (day, deed) in enumerate(rows):
            self.is_just(desk.say(write(day, deed)), str(number))
        return desk

    def answers(self, desk, drying, rows):
        """All it answers is what a store says that is told these (number, day, deed)s by hand."""
        store, came = told_by_hand(drying, rows)
        self.is_just(desk.say("day"), str(store.today()))
        for word, things in [("notes", store.notes()), ("casks", store.casks()), ("excess", store.excess())]:
            self.is_just(desk.say(word), "; ".join([str(thing) for thing in things]) or "none")
        for ware in WARES:
            self.is_just(desk.say("stock " + ware), str(store.stock(ware)))
        for name in NAMES:
            try:
                due = store.fate(name)
            except NoNote:
                self.refused_row(desk, "fate " + name, NoNote, what=name)
            else:
                self.is_just(desk.say("fate " + name), due)
        for number, done, told in came:
            self.is_just(desk.say(f"result {number}"), "ok" if done else told)
        text = show_book(book_of([(day, deed) for _, day, deed in sorted(rows, key=lambda row: row[0])], drying))
        self.is_just(desk.say("book"), text.replace("\n", " | "))

    def refused_row(self, desk, row, error, **fields):
        """It is refused with just this error, and the desk stays as it was."""
        with self.subTest(row=repr(row)[:100]):
            ahead = desk.say("book")
            with self.assertRaises(error) as caught:
                desk.say(row)
            self.assertIs(caught.exception.__class__, error)
            for name, due in fields.items():
                self.is_just(getattr(caught.exception, name), due)
            self.assertEqual(desk.say("book"), ahead)


class TestDeeds(DeskCase):
    def test_numbers_from_0_on(self):
        desk = Desk()
        for number, (_, row) in enumerate(ROWS):
            self.is_just(desk.say(row), str(number))
        desk.say("strike 3")
        self.is_just(desk.say("0 draw ann"), str(len(ROWS)))

    def test_the_tale(self):
        desk = self.desk()
        numbered = [(number, day, deed) for number, (day, deed) in enumerate(TALE)]
        self.answers(desk, DRYING, numbered)
        self.is_just(desk.say("notes"), "lou 9 ale 1")
        self.is_just(desk.say("casks"), "none")
        self.is_just(desk.say("excess"), "lou 9 ale 1")
        self.is_just(desk.say("day"), "63")
        self.is_just(desk.say("stock ale"), "0")

    def test_days_in_any_order(self):
        chance = random.Random(25)
        for _ in range(12):
            rows = chance.sample(TALE, len(TALE))
            self.answers(self.desk(rows), DRYING, [(number, *row) for number, row in enumerate(rows)])

    def test_held_against_a_store_row_by_row(self):
        for drying in [None, DRYING]:
            desk, rows = Desk(drying), []
            for number, (day, deed) in enumerate(TALE[:16] + TALE[:2] + TALE[20:]):
                self.is_just(desk.say(write(day, deed)), str(number))
                rows.append((number, day, deed))
                self.answers(desk, drying, rows)

    def test_spoilt_rows(self):
        desk = self.desk(TALE[:6])
        told = 6
        for _, row in ROWS:
            words = row.split(" ")
            for at in range(len(words)):
                for other in ["", "-", "0", "01", "7/2", "Ann", "c01", "ale", "1201", "9999999999999"]:
                    changed = " ".join(words[:at] + [other] + words[at + 1:])
                    if row_told(changed) is None:
                        self.refused_row(desk, changed, NoRow)
                    else:
                        self.is_just(desk.say(changed), str(told))
                        told += 1
        self.is_just(desk.say("0 draw ann"), str(told))


class TestAnswers(DeskCase):
    def test_nothing_told(self):
        for drying, text in [(None, "drying"), ((), "drying"), (DRYING, "drying ale 1/10 rum 1/2")]:
            desk = Desk(drying)
            self.answers(desk, drying, [])
            self.assertEqual([desk.say(word) for word in QUESTIONS], ["0", "none", "none", "none", text])
            self.is_just(desk.say("stock ale"), "0")
            self.refused_row(desk, "strike 0", NoPlace, number=0)
            self.refused_row(desk, "result 0", NoPlace, number=0)
            self.refused_row(desk, "fate ann", NoNote, what="ann")

    def test_told_by_hand(self):
        desk = Desk((("ale", 1, 10),))
        for row, due in [("5 make ann ale 12", "0"), ("notes", "none"), ("0 cask c1f ale 15 rum 7/2", "1"),
                         ("notes", "ann 12 ale 5"), ("casks", "c1f 0: ale 15, rum 7/2"), ("excess", "none"), ("day", "5"),
                         ("4 make bo ale 3", "2"), ("notes", "bo 3 ale 4; ann 12 ale 5"), ("30 cask c0", "3"),
                         ("casks", "c1f 0: ale 27/2, rum 7/2; c0 30:"), ("excess", "ann 12 ale 5"), ("day", "30"),
                         ("stock ale", "27/2"), ("stock rum", "7/2"), ("stock tea", "0"), ("fate ann", "stands"),
                         ("0 burn c1f rum 4", "4"), ("0 burn c1f tea 4", "5"), ("7 draw cy", "6"), ("result 0", "ok"),
                         ("result 4", "Short"), ("result 5", "NoWare"), ("result 6", "NoNote"),
                         ("book", "drying ale 1/10 | 0 cask c1f ale 15 rum 7/2 | 0 burn c1f rum 4 | 0 burn c1f tea 4 | "
                                  "4 make bo ale 3 | 5 make ann ale 12 | 7 draw cy | 30 cask c0"),
                         ("strike 1", "ok"), ("casks", "c0 30:"), ("notes", "none"), ("result 0", "NotBorne"),
                         ("result 4", "NoMark"), ("day", "30"), ("strike 3", "ok"), ("day", "0"),
                         ("book", "drying ale 1/10 | 0 burn c1f rum 4 | 0 burn c1f tea 4 | 4 make bo ale 3 | "
                                  "5 make ann ale 12 | 7 draw cy"), ("7 draw ann", "7")]:
            with self.subTest(row=row):
                self.is_just(desk.say(row), due)

    def test_each_fate(self):
        desk = Desk()
        for row in ["0 cask c1 ale 99", "0 cask c2 ale 3", "1 make a ale 3", "1 make b ale 3", "1 make c ale 3",
                    "1 make d ale 3", "1 make e ale 3", "1 make f ale 3", "1 make g ale 3", "2 part b bb 1 bbb 2",
                    "2 merge cc c bb", "2 lose d dd", "2 draw e", "2 send c2 f", "2 pay 3 - g"]:
            desk.say(row)
        for name, due in [("a", "stands"), ("b", "parted"), ("bb", "merged"), ("bbb", "stands"), ("c", "merged"),
                          ("cc", "stands"), ("d", "lost"), ("dd", "stands"), ("e", "drawn"), ("f", "sent"), ("g", "paid")]:
            self.is_just(desk.say("fate " + name), due)

    def test_excess_of_its_own_day(self):
        desk = Desk((("ale", 1, 2),))
        for row in ["0 cask c1 ale 10", "0 cask c2 rum 5", "1 make b ale 5", "1 make a ale 5", "2 make c rum 5"]:
            desk.say(row)
        self.is_just(desk.say("excess"), "none")
        desk.say("30 weigh c2 rum 4")
        self.is_just(desk.say("excess"), "c 5 rum 2; b 5 ale 1")
        desk.say("60 weigh c2")
        self.is_just(desk.say("excess"), "c 5 rum 2; b 5 ale 1; a 5 ale 1")

    def test_great_numbers(self):
        desk = Desk((("ale", 1, 99),))
        desk.say("0 cask c1 ale 999999999999/999999999998")
        desk.say("1200 cask c2")
        self.is_just(desk.say("stock ale"), str(W(999999999999, 999999999998).times(98 ** 40, 99 ** 40)))
        desk.say("0 cask c3 rum 999999999999")
        desk.say("3 make a rum 999999999998")
        self.is_just(desk.say("notes"), "a 999999999998 rum 3")

    def test_asked_again(self):
        desk = self.desk()
        for _ in range(3):
            self.answers(desk, DRYING, [(number, *row) for number, row in enumerate(TALE)])


class TestStrike(DeskCase):
    def test_it_counts_no_more(self):
        desk = self.desk()
        rows = [(number, *row) for number, row in enumerate(TALE)]
        for number in [24, 0, 30, 10, 3]:
            self.is_just(desk.say(f"strike {number}"), "ok")
            rows = [row for row in rows if row[0] != number]
            self.answers(desk, DRYING, rows)
            for word in ["strike", "result"]:
                self.refused_row(desk, f"{word} {number}", NoPlace, number=number)

    def test_numbers_that_do_not_count(self):
        desk = self.desk()
        for number in [len(TALE), 60, 1200, 10 ** 12, 10 ** 39, FORTY_NINES]:
            for word in ["strike", "result"]:
                self.refused_row(desk, f"{word} {number}", NoPlace, number=number)

    def test_what_is_no_number(self):
        desk = self.desk()
        for what in ["00", "01", "007", "-1", "+1", "1.0", "1/1", "1/2", "one", "ann", "-", "", "0x1", "1_0", "c1", "True",
                     "None", str(10 ** 40), "1" * 41, "9" * 400, "9" * 7900, "0" * 40, "1\t", "\t1", "1e1"]:
            for word in ["strike", "result"]:
                self.refused_row(desk, f"{word} {what}", NoRow)


class TestNoRow(DeskCase):
    def test_of_anything(self):
        desk = self.desk()
        for row in ANYTHING + [0, 1, FORTY_NINES, "0", "1", ["day"], ("day",)]:
            self.refused_row(desk, row, NoRow)

    def test_blanks_line_ends_other_words(self):
        desk = self.desk()
        for row in QUESTIONS + ["stock ale", "fate ann", "strike 1", "result 1", "5 draw ann", "5 cask c1 ale 1", "5 fire c1"]:
            changed = [" " + row, row + " ", row + "\n", "\n" + row, row + "\n" + row, row.upper(), row.title(), "x" + row,
                       row + "\t", row + " | day", "-" + row]
            if " " in row:
                changed += [row.replace(" ", "  ", 1), row.replace(" ", "\n", 1), row.replace(" ", "", 1), row.split(" ")[0],
                            row.replace(" ", " \n", 1), row.replace(" ", "\t", 1), row.split(" ")[0] + " "]
            else:
                changed += [row + " 0", row + " ann", row + " ale", row + " -", row + " c1", row + " 0 1"]
            for one in changed:
                if not (row == "fate ann" and one.split(" ")[0] == "fate" and "\n" not in one and len(one.split(" ")) == 2
                        and one != "fate "):
                    self.refused_row(desk, one, NoRow)

    def test_other_questions(self):
        desk = self.desk()
        for row in ["today", "note", "cask", "stocks ale", "stock", "stock ale 5", "stock ale rum", "fate", "fate ann bo",
                    "strike", "strike 1 2", "result", "result 1 2", "drying", "drying ale 1/10", "deed 1", "store", "len",
                    "excess 30", "day 30", "promised ale", "results", "none", "ok", "book | day", "stock -", "-", "fate  ",
                    "fate ann ", "fate  ann", " fate ann", "notes;", "tell 0 draw ann", "0", "0 draw", "draw ann", "0 0 0"]:
            self.refused_row(desk, row, NoRow)

    def test_wares_that_are_none(self):
        desk = self.desk()
        for ware in ["", "Ale", "a-b", "c1", "1", "zedzedzed", "-", "ale\t", "ale\n", "al\ne", "/", "7/2", "_"]:
            self.refused_row(desk, "stock " + ware, NoRow)

    def test_line_ends_anywhere(self):
        desk = self.desk()
        for row in ["fate a\nb", "fate \n", "fate ann\n", "\nfate ann", "fate\nann", "strike 1\n", "day\n", "\n",
                    "stock ale\n", "5 draw ann\n", "5 draw\nann", "5 make a b 1\n2"]:
            self.refused_row(desk, row, NoRow)

    def test_a_name_any_word(self):
        desk = self.desk()
        for name in ["zed", "Ann", "c1", "-", "1", "a-b", "annannann", "~", "|", "ale", "kay", "ida", "fay", "0", "7/2",
                     "()", "x" * 7990, "None", "stands", "'", '"ann"', "{}"]:
            self.refused_row(desk, "fate " + name, NoNote, what=name)

    def test_it_stays_as_it_was(self):
        desk = self.desk()
        like = copy.deepcopy(desk)
        for row in ["strike 99", "strike 01", "result 99", "fate zed", "stock Ale", "5 draw", "5 draw ann ", "1201 draw a", None]:
            with self.assertRaises((NoRow, NoPlace, NoNote)):
                desk.say(row)
        rows = [(number, *row) for number, row in enumerate(TALE)]
        self.answers(desk, DRYING, rows)
        self.assertEqual(desk.say("5 draw ann"), like.say("5 draw ann"))


class TestOwn(DeskCase):
    def test_two_desks_share_nothing(self):
        one, other = Desk(DRYING), Desk(DRYING)
        first, second = [], []
        for at, (day, deed) in enumerate(TALE):
            one.say(write(day, deed))
            first.append((at, day, deed))
            if at % 3 == 0:
                other.say(write(1200 - day, deed))
                second.append((at // 3, 1200 - day, deed))
            if at % 5 == 0:
                self.answers(one, DRYING, first)
                self.answers(other, DRYING, second)
        self.answers(one, DRYING, first)
        self.answers(other, DRYING, second)

    def test_by_name_and_by_place(self):
        desk = Desk(drying=DRYING)
        self.is_just(desk.say(row="0 cask c1 ale 9"), "0")
        self.is_just(desk.say(row="casks"), "c1 0: ale 9")
        self.is_just(desk.say("book"), "drying ale 1/10 rum 1/2 | 0 cask c1 ale 9")
        with self.assertRaises(NoRow):
            desk.say(row=None)


if __name__ == "__main__":
    unittest.main()
