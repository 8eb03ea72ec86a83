"""A desk: a book that is told rows, and answers in texts."""

from casknotes.books import Book
from casknotes.booktexts import show_book
from casknotes.deedrows import read_row
from casknotes.errors import NoRow
from casknotes.names import is_name
from casknotes.numerals import TENS, is_numeral, show_whole

MOST_FIGURES = 40


class Desk:
    """A book, and what is told of it in texts."""

    def __init__(self, drying=None):
        self.book = Book(drying)

    def say(self, row):
        """What is told of a row, a text; NoRow, NoPlace, NoNote."""
        if not isinstance(row, str) or "\n" in row:
            raise NoRow("a row is a text without a line end")
        words = row.split(" ")
        if len(words) == 1:
            return self._asked(words[0])
        if len(words) == 2:
            return self._asked_of(words[0], words[1])
        told = read_row(row)
        if told is None:
            raise NoRow("it is no row that writes a deed")
        day, deed = told
        return show_whole(self.book.tell(day, deed))

    def _asked(self, word):
        """What is told of a row of one word; NoRow."""
        if word == "day":
            return str(self.book.store().today())
        if word == "notes":
            return row_of(self.book.store().notes())
        if word == "casks":
            return row_of(self.book.store().casks())
        if word == "excess":
            return row_of(self.book.store().excess())
        if word == "book":
            return show_book(self.book).replace("\n", " | ")
        raise NoRow("no row of one word is so")

    def _asked_of(self, word, what):
        """What is told of a row of two words; NoRow, NoPlace, NoNote."""
        if word == "strike":
            self.book.strike(number_of(what))
            return "ok"
        if word == "result":
            return self._result(number_of(what))
        if word == "stock" and is_name(what):
            return str(self.book.store().stock(what))
        if word == "fate" and what:
            return self.book.store().fate(what)
        raise NoRow("no row of two words is so")

    def _result(self, number):
        """ok where a deed was done, or the name of the refusal's class; NoPlace."""
        self.book.deed(number)
        for other, was_done, told in self.book.results():
            if other == number and not was_done:
                return told
        return "ok"


def number_of(word):
    """The whole number that a word writes; NoRow."""
    if not is_numeral(word, TENS, MOST_FIGURES):
        raise NoRow("a number is written in at most forty figures, without noughts ahead")
    return int(word)


def row_of(things):
    """Notes or casks in one row."""
    return "; ".join([str(thing) for thing in things]) if things else "none"
