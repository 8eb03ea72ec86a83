"""Notes: so many grains of a ware, that pass as money."""

from casknotes.errors import NoDay, NoGrains, NoName
from casknotes.names import is_day, is_grains, is_name
from casknotes.numerals import show_whole


class Note:
    """So many grains of a ware, born on a day; it never changes."""

    def __init__(self, name, ware, grains, born=0):
        if not is_name(name):
            raise NoName("a note has a name")
        if not is_name(ware):
            raise NoName("the ware of a note is a name")
        if not is_grains(grains):
            raise NoGrains("a note is of grains, a whole number from 1 on")
        if not is_day(born):
            raise NoDay("a note is born on a day")
        self.name = name
        self.ware = ware
        self.grains = grains
        self.born = born

    def __eq__(self, other):
        return (isinstance(other, Note) and self.name == other.name and self.ware == other.ware
                and self.grains == other.grains and self.born == other.born)

    def __str__(self):
        return f"{self.name} {show_whole(self.grains)} {self.ware} {self.born}"

    def __repr__(self):
        return f"Note({self.name!r}, {self.ware!r}, {show_whole(self.grains)}, {self.born})"


def by_age(notes):
    """Notes by the days they are born, those of a day by their names."""
    return tuple(sorted(notes, key=lambda note: (note.born, note.name)))


def ranked(notes, rank=None):
    """Notes as they rise by what a function of a note tells, else by age."""
    by_days = by_age(notes)
    if rank is None:
        return by_days
    # Sorting leaves those that are alike in their order, so by age.
    return tuple(sorted(by_days, key=lambda note: rank(note)))
