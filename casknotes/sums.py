"""Sums: how far a stock bears the notes of a ware, the eldest first."""

from casknotes.notes import by_age
from casknotes.weights import Weight


def sums_of(notes, stock):
    """For each note by age (name, its grains and those of all elder ones, whether the stock bears it)."""
    rows = []
    grains = 0
    for note in by_age(notes):
        grains += note.grains
        borne = not stock.is_below(Weight(grains))
        rows.append((note.name, grains, borne))
    return tuple(rows)
