"""Books: what they say, told by hand to a store; how rows write deeds, as the document tells it."""

import copy
import re

from casknotes.books import Book
from casknotes.errors import CaskError, NoPlace, NoWare
from casknotes.stores import Store
from casknotes.weights import Weight
from deeding import is_such
from storing import StoreCase, everything

W = Weight
DRYING = (("ale", 1, 10), ("rum", 1, 2))

# (day, deed)s in the order of their days: each deed is done once and refused once at least.
TALE = [
    (0, ("cask", "c1", (("ale", W(40)), ("rum", W(7, 2))))),
    (0, ("make", "ann", "ale", 12)),
    (1, ("make", "bo", "ale", 9)),
    (2, ("make", "bo", "ale", 1)),                                    # Twice
    (5, ("cask", "c2", (("ale", W(9)), ("tea", W(5))))),
    (5, ("cask", "c1", ())),                                          # Twice
    (6, ("weigh", "c2", (("ale", W(10)), ("tea", W(5))))),
    (6, ("weigh", "c9", ())),                                         # NoMark
    (7, ("burn", "c2", "tea", W(1, 2))),
    (7, ("burn", "c2", "gin", W(1))),                                 # NoWare
    (8, ("burn", "c2", "tea", W(9))),                                 # Short
    (9, ("make", "cy", "tea", 5)),                                    # NotBorne
    (10, ("part", "ann", (("dee", 5), ("eve", 7)))),
    (10, ("part", "bo", (("fay", 5), ("gus", 5)))),                   # NoSum
    (30, ("merge", ("dee", "bo"), "hal")),
    (30, ("merge", ("dee", "eve"), "ida")),                           # NoNote
    (31, ("lose", "hal", "jo")),
    (31, ("lose", "hal", "kay")),                                     # LostNote
    (40, ("pay", ("jo",), 3, "lou")),
    (40, ("pay", ("lou",), 3, None)),                                 # NoName
    (41, ("pay", ("eve",), 7, None)),
    (45, ("make", "max", "ale", 6)),
    (46, ("draw", "max")),
    (46, ("draw", "max")),                                            # NoNote
    (60, ("cask", "c3", (("ale", W(3, 2)),))),
    (61, ("send", "c3", "lou")),
    (61, ("send", "c3", None)),                                       # NoMark
    (62, ("send", "c1", None)),                                       # NotBorne
    (63, ("fire", ("c2", "c1"))),
    (64, ("fire", ("c2",))),                                          # NoMark
    (64, ("draw", "lou")),                                            # Short
]
NAMES = sorted({word for _, deed in TALE for word in re.findall("'([a-z]+)'", repr(deed))})


def told_by_hand(drying, rows):
    """The store that is told (number, day, deed)s by their days, and what came of each, by their numbers."""
    store, came = Store(drying), []
    for number, day, deed in sorted(rows, key=lambda row: row[1]):
        try:
            came.append((number, True, getattr(store, deed[0])(day, *deed[1:])))
        except (CaskError, NoWare) as error:
            came.append((number, False, error.__class__.__name__))
    return store, tuple(sorted(came, key=lambda row: row[0]))


def book_of(rows, drying=None):
    """A book that is told (day, deed)s in this order."""
    book = Book(drying)
    for day, deed in rows:
        book.tell(day, deed)
    return book


class BookCase(StoreCase):
    def says(self, book, drying, rows):
        """The book says just what comes of these (number, day, deed)s, and is none else for being asked."""
        for _ in range(2):
            store, came = told_by_hand(drying, rows)
            found = book.store()
            self.assertIs(found.__class__, Store)
            self.assertTrue(found == store)
            self.assertEqual(everything(found), everything(store))
            self.is_just(book.results(), came)
            self.is_just(len(book), len(rows))
            self.assertIs(bool(book), len(rows) > 0)
            for number, day, deed in rows:
                self.is_just(book.deed(number), (day, deed))

    def stays(self, book, ask, error, **fields):
        """Asked so it refuses with just this error, and stays as it was."""
        ahead = copy.deepcopy(book)
        with self.assertRaises(error) as caught:
            ask()
        self.assertIs(caught.exception.__class__, error)
        for name, due in fields.items():
            self.assertIs(getattr(caught.exception, name), due)
        self.assertTrue(book == ahead)
        self.is_just(book.results(), ahead.results())
        self.assertEqual(numbers(book), numbers(ahead))


def numbers(book):
    """The numbers that count, and the one that the next deed gets."""
    found = []
    for number in range(200):
        try:
            book.deed(number)
        except NoPlace:
            continue
        found.append(number)
    return found, copy.deepcopy(book).tell(0, ("draw", "ann"))


def write(day, deed):
    """The row that writes a deed, as the document tells it."""
    word = deed[0]
    if word in ("cask", "weigh"):
        words = [deed[1]] + [f"{ware} {weight}" for ware, weight in deed[2]]
    elif word == "burn":
        words = [deed[1], deed[2], f"{deed[3]}"]
    elif word == "part":
        words = [deed[1]] + [f"{name} {grains}" for name, grains in deed[2]]
    elif word == "merge":
        words = [deed[2]] + list(deed[1])
    elif word == "pay":
        words = [f"{deed[2]}", deed[3] or "-"] + list(deed[1])
    elif word == "send":
        words = [deed[1], deed[2] or "-"]
    elif word == "fire":
        words = list(deed[1])
    else:
        words = [f"{part}" for part in deed[1:]]
    return " ".join([f"{day}", word] + words)


def guess(word):
    """What a word may tell, its noughts ahead left away."""
    if word == "-":
        return None
    if re.fullmatch("[0-9]+", word):
        return int(word)
    return word


def weight_of(word):
    return W(*[int(figures) for figures in word.split("/")]) if re.fullmatch("[0-9]+(/0*[1-9][0-9]*)?", word) else word


def row_told(row):
    """The (day, deed) that a row writes, or None: guessed, and held against what writes it."""
    words = row.split(" ")
    long = [figures for figures in re.findall("(?<![0-9a-z])[0-9]+", row) if len(figures) > 12]
    if len(words) < 3 or long or not re.fullmatch("[0-9]+", words[0]):
        return None
    day, word, rest = int(words[0]), words[1], words[2:]
    pairs = list(zip(rest[1::2], rest[2::2]))
    deed = {
        "cask": (word, rest[0], tuple([(ware, weight_of(weight)) for ware, weight in pairs])),
        "weigh": (word, rest[0], tuple([(ware, weight_of(weight)) for ware, weight in pairs])),
        "burn": (word,) + tuple(rest[:2]) + tuple([weight_of(weight) for weight in rest[2:3]]),
        "part": (word, rest[0], tuple([(name, guess(grains)) for name, grains in pairs])),
        "merge": (word, tuple(rest[1:]), rest[0]),
        "pay": (word, tuple(rest[2:]), guess(rest[0])) + tuple([guess(change) for change in rest[1:2]]),
        "fire": (word, tuple(rest)),
    }.get(word, (word,) + tuple([guess(one) for one in rest]))
    if day > 1200 or not is_such(deed) or write(day, deed) != row:
        return None
    return day, deed


def drying_told(row):
    """The drying that a row writes, or None."""
    if not re.fullmatch("drying( [a-z]{1,8} (0|[1-9][0-9]?)/([1-9][0-9]?|100)){0,4}", row):
        return None
    rows = [(ware, int(top), int(bottom)) for ware, top, bottom in re.findall("([a-z]+) ([0-9]+)/([0-9]+)", row)]
    wares = [ware for ware, _, _ in rows]
    if wares != sorted(set(wares)) or any([top >= bottom for _, top, bottom in rows]):
        return None
    return tuple(rows)


def text_told(text):
    """(drying, (day, deed)s) that a text writes, or the number of the first row that isn't so."""
    drying, *rows = text.split("\n")
    if drying_told(drying) is None:
        return 0
    found = []
    for at, row in enumerate(rows):
        told = row_told(row)
        if told is None or (found and told[0] < found[-1][0]):
            return at + 1
        found.append(told)
    return drying_told(drying), found


