"""What stands in a store, and what was ever given there."""

from casknotes.casks import Cask, casks_by_age
from casknotes.drying import dried, turns
from casknotes.errors import Full, LostNote, NoDay, NoMark, NoNote, TooLate, Twice
from casknotes.names import is_day
from casknotes.notes import Note, by_age
from casknotes.weights import total

MOST_CASKS = 12
MOST_NAMES = 24
STANDS = "stands"
LOST = "lost"


class Standing:
    """The casks and the notes of a store on its day, all marks ever given, and the fates of all names."""

    def __init__(self, drying, day):
        self.drying = drying
        self.day = day
        self.casks = ()
        self.notes = ()
        self.marks = {}
        self.fates = {}

    def __eq__(self, other):
        return (isinstance(other, Standing) and self.drying == other.drying and self.day == other.day
                and self.casks == other.casks and self.notes == other.notes
                and self.marks == other.marks and self.fates == other.fates)

    def casks_on(self, day):
        """The casks as they stand on a day that is no less; NoDay, TooLate."""
        if not is_day(day):
            raise NoDay("it is no day")
        if day < self.day:
            raise TooLate(self.day)
        many = turns(self.day, day)
        return tuple([dried(cask, self.drying, many) for cask in self.casks])

    def go_to(self, day, casks):
        """From now on it is this day, and these casks stand."""
        self.day = day
        self.casks = casks_by_age(casks)

    def note(self, name):
        """The note that is called so, or LostNote, NoNote."""
        for note in self.notes:
            if note.name == name:
                return note
        if isinstance(name, str) and self.fates.get(name) == LOST:
            raise LostNote(name)
        raise NoNote(name)

    def check_new(self, name):
        """Twice where a note was ever called so."""
        if name in self.fates:
            raise Twice(name)

    def check_names(self, many):
        """Full where there is no room for so many more names."""
        if len(self.fates) + many > MOST_NAMES:
            raise Full("a store gives at most twenty-four names")

    def leave(self, notes, fate):
        """These notes go by this fate."""
        names = [note.name for note in notes]
        self.notes = tuple([note for note in self.notes if note.name not in names])
        for name in names:
            self.fates[name] = fate

    def come(self, notes):
        """These notes stand from now on, too."""
        self.notes = by_age((*self.notes, *notes))
        for note in notes:
            self.fates[note.name] = STANDS


def cask_called(casks, mark):
    """The cask with this mark, or NoMark."""
    for cask in casks:
        if cask.mark == mark:
            return cask
    raise NoMark(mark)


def without(casks, gone):
    """These casks but for some of them."""
    marks = [cask.mark for cask in gone]
    return tuple([cask for cask in casks if cask.mark not in marks])


def exchanged(casks, fresh):
    """These casks, one of them as it is now."""
    return (*without(casks, (fresh,)), fresh)


def stock_of(casks, ware):
    """What casks have of a ware together."""
    return total(tuple([cask.weight_of(ware) for cask in casks]))


def wares_of(casks):
    """The wares that casks have, rising."""
    return tuple(sorted({ware for cask in casks for ware, _ in cask.parts}))


def notes_of(notes, ware):
    """Those of some notes that are of a ware."""
    return tuple([note for note in notes if note.ware == ware])


def grains_of(notes):
    """The grains of notes together."""
    return sum([note.grains for note in notes])


# To Python the fields of a Note, a Cask, a Weight can be set; so a store hands
# out, and keeps of what is handed in, new ones alone.


def own_note(note):
    """A new Note with the same fields."""
    return Note(note.name, note.ware, note.grains, note.born)


def own_cask(cask):
    """A new Cask with the same fields."""
    parts = tuple([(ware, weight.times(1)) for ware, weight in cask.parts])
    return Cask(cask.mark, cask.since, parts)
