"""Whether sums that somebody tells are so."""

from casknotes.alike import is_alike
from casknotes.sums import sums_of


def sums_holds(notes, stock, thing):
    """Whether it is the sums of notes of one ware and a stock."""
    return is_alike(thing, sums_of(notes, stock))
