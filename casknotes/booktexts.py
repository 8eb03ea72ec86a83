"""Books written in rows and read back."""

from casknotes.books import Book, by_days
from casknotes.deedrows import read_number, read_row, show_row
from casknotes.drying import is_drying
from casknotes.errors import NoText

DRYING = "drying"


def show_book(book):
    """The rows that write a book, a line end between."""
    losses = [f"{ware} {top}/{bottom}" for ware, top, bottom in book.drying]
    rows = [show_row(day, deed) for day, deed in by_days(book)]
    return "\n".join([" ".join([DRYING, *losses]), *rows])


def read_book(text):
    """The book that a text writes, or NoText with the first row that isn't so."""
    if not isinstance(text, str):
        raise NoText(0)
    first, *rows = text.split("\n")
    drying = read_drying(first)
    if drying is None:
        raise NoText(0)
    book = Book(drying)
    last = 0
    for at, row in enumerate(rows, start=1):
        told = read_row(row)
        if told is None or told[0] < last:
            raise NoText(at)
        last, deed = told
        book.tell(last, deed)
    return book


def read_drying(row):
    """The drying that a row writes, None where it writes none."""
    word, *words = row.split(" ")
    if word != DRYING or len(words) % 2 > 0:
        return None
    drying = tuple([(ware, *read_share(share)) for ware, share in zip(words[::2], words[1::2])])
    return drying if is_drying(drying) else None


def read_share(word):
    """The top and the bottom that a word writes, None for each that is no number."""
    top, _, bottom = word.partition("/")
    return (read_number(top), read_number(bottom))
