"""Shares: who bears what of a loss."""

from casknotes.alike import is_alike
from casknotes.notes import by_age
from casknotes.weights import Weight


def shares_of(loss, stock, notes):
    """What of a loss each note of a ware bears, and (None, the rest) what none of them bears."""
    # Of no loss nobody bears anything, and the whole may be nought.
    if loss.is_nought():
        return ()
    noted = Weight(sum([note.grains for note in notes]))
    whole = noted if stock.is_below(noted) else stock
    rows = [(note.name, share(loss, Weight(note.grains), whole)) for note in by_age(notes)]
    if noted.is_below(whole):
        rows.append((None, share(loss, whole.less(noted), whole)))
    return tuple(rows)


def share(loss, part, whole):
    """A loss times a part of the whole / the whole."""
    return loss.times(part.top * whole.bottom, part.bottom * whole.top)


def shares_holds(loss, stock, notes, thing):
    """Whether it is the shares of a loss."""
    return is_alike(thing, shares_of(loss, stock, notes))
