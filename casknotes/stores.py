"""Stores: casks, and the notes that they bear."""

from casknotes.casks import Cask, is_parts
from casknotes.errors import Full, NoGrains, NoName, NoNote, NoSum, NotBorne, NoWeight, Twice
from casknotes.falling import falls_of
from casknotes.names import is_grains, is_mark
from casknotes.notes import Note, by_age
from casknotes.shares import shares_of
from casknotes.standing import (LOST, MOST_CASKS, Standing, cask_called, exchanged, grains_of, notes_of, own_cask,
                                own_note, stock_of, wares_of, without)
from casknotes.sums import sums_of
from casknotes.takings import taking
from casknotes.weights import Weight


class Store:
    """A store of casks and notes. Each deed looks at all that may be refused ahead of what it changes."""

    def __init__(self, drying=None, day=0):
        self.standing = Standing(() if drying is None else drying, day)

    def __eq__(self, other):
        return isinstance(other, Store) and self.standing == other.standing

    def __len__(self):
        return len(self.standing.notes)

    def cask(self, day, mark, parts):
        """A cask comes in; NoName, NoWeight, Twice, Full."""
        standing = self.standing
        casks = standing.casks_on(day)
        if not is_mark(mark):
            raise NoName("a cask has a mark")
        check_parts(parts)
        if mark in standing.marks:
            raise Twice(mark)
        if len(casks) >= MOST_CASKS:
            raise Full("at most twelve casks stand in a store")
        standing.marks[mark] = True
        standing.go_to(day, (*casks, own_cask(Cask(mark, day, parts))))

    def weigh(self, day, mark, parts):
        """A cask has these parts from now on; NoMark, NoWeight."""
        casks = self.standing.casks_on(day)
        cask = cask_called(casks, mark)
        check_parts(parts)
        weighed = own_cask(Cask(cask.mark, cask.since, parts))
        self.standing.go_to(day, exchanged(casks, weighed))

    def burn(self, day, mark, ware, weight):
        """So much of a ware is burned as refuse; NoMark, NoWeight, NoWare, Short."""
        casks = self.standing.casks_on(day)
        cask = cask_called(casks, mark)
        if not isinstance(weight, Weight) or weight.is_nought():
            raise NoWeight("what burns is a Weight above nought")
        self.standing.go_to(day, exchanged(casks, cask.lessened(ware, weight)))

    def make(self, day, name, ware, grains):
        """A note is made out; NoName, NoGrains, Twice, Full, NotBorne."""
        standing = self.standing
        casks = standing.casks_on(day)
        note = Note(name, ware, grains, day)
        standing.check_new(name)
        standing.check_names(1)
        noted = Weight(self.promised(ware) + grains)
        stock = stock_of(casks, ware)
        if stock.is_below(noted):
            raise NotBorne(noted.less(stock))
        standing.come((note,))
        standing.go_to(day, casks)

    def part(self, day, name, pieces):
        """In a note's stead come these; NoNote and kin, NoName, NoGrains, Twice, NoSum, Full."""
        standing = self.standing
        casks = standing.casks_on(day)
        note = standing.note(name)
        fresh = []
        for piece, grains in pieces:
            come = Note(piece, note.ware, grains, note.born)
            standing.check_new(piece)
            if piece in [other.name for other in fresh]:
                raise Twice(piece)
            fresh.append(come)
        if grains_of(fresh) != note.grains:
            raise NoSum("pieces come to the grains of the note")
        standing.check_names(len(fresh))
        standing.leave((note,), "parted")
        standing.come(fresh)
        standing.go_to(day, casks)

    def merge(self, day, names, fresh):
        """In the stead of notes comes one; NoNote and kin, NoSum, NoName, Twice, Full."""
        standing = self.standing
        casks = standing.casks_on(day)
        notes = [standing.note(name) for name in names]
        check_one_ware(notes)
        note = Note(fresh, notes[0].ware, grains_of(notes), youngest_day(notes))
        standing.check_new(fresh)
        standing.check_names(1)
        standing.leave(notes, "merged")
        standing.come((note,))
        standing.go_to(day, casks)

    def lose(self, day, name, fresh):
        """A note is lost, in its stead comes one made anew; NoNote and kin, NoName, Twice, Full."""
        standing = self.standing
        casks = standing.casks_on(day)
        note = standing.note(name)
        anew = Note(fresh, note.ware, note.grains, note.born)
        standing.check_new(fresh)
        standing.check_names(1)
        standing.leave((note,), LOST)
        standing.come((anew,))
        standing.go_to(day, casks)

    def draw(self, day, name):
        """A note goes, its grains are taken: tells the taking; NoNote and kin, Short."""
        standing = self.standing
        casks = standing.casks_on(day)
        note = standing.note(name)
        taken = taking(casks, note.ware, note.grains)
        for mark, weight in taken:
            casks = exchanged(casks, cask_called(casks, mark).lessened(note.ware, weight))
        standing.leave((note,), "drawn")
        standing.go_to(day, casks)
        return taken

    def send(self, day, mark, first=None):
        """A cask goes, what it has falls to notes: tells to which; NoMark, NoNote and kin, NotBorne."""
        standing = self.standing
        casks = standing.casks_on(day)
        cask = cask_called(casks, mark)
        if first is not None:
            standing.note(first)
        fallen = falls_of(cask, standing.notes, first)
        rests = []
        for name, grains in fallen:
            note = standing.note(name)
            if grains < note.grains:
                rests.append(Note(name, note.ware, note.grains - grains, note.born))
        standing.leave([standing.note(name) for name, _ in fallen], "sent")
        standing.come(rests)
        standing.go_to(day, without(casks, (cask,)))
        return fallen

    def pay(self, day, names, due, change=None):
        """Notes go for what is due: tells the note of what is more; NoGrains, NoNote and kin, NoSum and so on."""
        standing = self.standing
        casks = standing.casks_on(day)
        if not is_grains(due):
            raise NoGrains("what is due is grains")
        notes = [standing.note(name) for name in names]
        check_one_ware(notes)
        more = grains_of(notes) - due
        if more < 0:
            raise NoSum("the notes are less than what is due")
        fresh = []
        if more > 0:
            fresh.append(Note(change, notes[0].ware, more, youngest_day(notes)))
            standing.check_new(change)
            standing.check_names(1)
        standing.leave(notes, "paid")
        standing.come(fresh)
        standing.go_to(day, casks)
        return own_note(fresh[0]) if fresh else None

    def fire(self, day, marks):
        """Casks burn: tells for each ware who bears what of it; NoMark."""
        standing = self.standing
        casks = standing.casks_on(day)
        burned = [cask_called(casks, mark) for mark in marks]
        rows = []
        for ware in wares_of(burned):
            notes = notes_of(standing.notes, ware)
            rows.append((ware, shares_of(stock_of(burned, ware), stock_of(casks, ware), notes)))
        standing.go_to(day, without(casks, burned))
        return tuple(rows)

    def today(self):
        """The day of the store."""
        return self.standing.day

    def casks(self):
        """The casks by age."""
        return tuple([own_cask(cask) for cask in self.standing.casks])

    def notes(self):
        """The notes by age."""
        return tuple([own_note(note) for note in self.standing.notes])

    def stock(self, ware, day=None):
        """What the casks have of a ware on a day, today where none is told; NoDay, TooLate."""
        return stock_of(self._casks_told(day), ware)

    def excess(self, day=None):
        """The notes that the casks don't bear on a day, the youngest first; NoDay, TooLate."""
        casks = self._casks_told(day)
        found = []
        for ware in sorted({note.ware for note in self.standing.notes}):
            sums = sums_of(notes_of(self.standing.notes, ware), stock_of(casks, ware))
            found.extend([self.standing.note(name) for name, _, borne in sums if not borne])
        return tuple([own_note(note) for note in reversed(by_age(found))])

    def promised(self, ware):
        """The grains of the notes of a ware together."""
        return grains_of(notes_of(self.standing.notes, ware))

    def fate(self, name):
        """What became of the note that was called so; NoNote where none ever was."""
        if isinstance(name, str) and name in self.standing.fates:
            return self.standing.fates[name]
        raise NoNote(name)

    def _casks_told(self, day):
        """The casks as they stand on a day, or today where none is told."""
        return self.standing.casks_on(self.standing.day if day is None else day)


def check_parts(parts):
    """NoWeight where it is no parts; here None is none."""
    if not is_parts(parts):
        raise NoWeight("the parts of a cask are none to four wares, rising, with Weights above nought")


def check_one_ware(notes):
    """NoSum where notes are of unlike wares."""
    if len(notes_of(notes, notes[0].ware)) < len(notes):
        raise NoSum("notes are of one ware")


def youngest_day(notes):
    """The day the youngest of notes is born."""
    return max([note.born for note in notes])
