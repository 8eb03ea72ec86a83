"""Whether findings hold, whoever wrote them."""

from casknotes.alike import is_alike
from casknotes.booktexts import read_book
from casknotes.casks import Cask
from casknotes.errors import NoText
from casknotes.names import is_grains, is_name
from casknotes.notes import Note
from casknotes.paychecks import few_holds
from casknotes.shares import shares_holds
from casknotes.sumchecks import sums_holds
from casknotes.takings import taking_holds
from casknotes.weights import Weight

MOST_GRAINS = 8


def finding_holds(thing):
    """Whether it is a finding that holds."""
    if not isinstance(thing, tuple) or len(thing) == 0:
        return False
    word, *handed = thing
    if word == "book" and len(handed) == 2:
        return book_found(handed[0], handed[1])
    if word == "sums" and len(handed) == 3:
        return sums_found(handed[0], handed[1], handed[2])
    if len(handed) != 4:
        return False
    one, other, third, last = handed
    if word == "taking":
        return taking_found(one, other, third, last)
    if word == "shares":
        return shares_found(one, other, third, last)
    return word == "few" and few_found(one, other, third, last)


def sums_found(notes, stock, thing):
    """Whether these are notes of one ware and a stock, and it is their sums."""
    return are_notes(notes) and isinstance(stock, Weight) and sums_holds(notes, stock, thing)


def taking_found(casks, ware, grains, thing):
    """Whether these are casks, a ware and grains, and it is a taking of them."""
    return are_casks(casks) and is_name(ware) and is_grains(grains) and taking_holds(casks, ware, grains, thing)


def shares_found(loss, stock, notes, thing):
    """Whether these are a loss, a stock that is no less and notes of one ware, and it is the shares."""
    if not isinstance(loss, Weight) or not isinstance(stock, Weight) or not are_notes(notes):
        return False
    return not stock.is_below(loss) and shares_holds(loss, stock, notes, thing)


def few_found(grains, due, chosen, paper):
    """Whether these are grains and what is due, and what is chosen and its paper are so."""
    if not isinstance(grains, tuple) or not 1 <= len(grains) <= MOST_GRAINS:
        return False
    if not all([is_grains(number) for number in grains]) or not is_grains(due):
        return False
    return few_holds(grains, due, (chosen, paper))


def book_found(text, results):
    """Whether the text writes a book of which these results came."""
    try:
        book = read_book(text)
    except NoText:
        return False
    return is_alike(results, book.results())


def are_notes(thing):
    """Whether it is a tuple of notes of one ware, their names unlike."""
    if not isinstance(thing, tuple) or not all([isinstance(note, Note) for note in thing]):
        return False
    if len(set([note.ware for note in thing])) > 1:
        return False
    return len(set([note.name for note in thing])) == len(thing)


def are_casks(thing):
    """Whether it is a tuple of casks, their marks unlike."""
    if not isinstance(thing, tuple) or not all([isinstance(cask, Cask) for cask in thing]):
        return False
    return len(set([cask.mark for cask in thing])) == len(thing)
