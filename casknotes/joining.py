"""Two stores joined to a new one."""

from casknotes.errors import Full, NotAlike, Twice
from casknotes.notes import by_age
from casknotes.standing import MOST_CASKS, MOST_NAMES, own_cask, own_note
from casknotes.stores import Store


def joined(one, other):
    """A new store of all that stands and was given in two, at the later day; NotAlike, Twice, Full."""
    here, there = one.standing, other.standing
    if here.drying != there.drying:
        raise NotAlike("two stores that join dry alike")
    both = given_in_both(here, there)
    if both:
        raise Twice(both[0])
    day = max(here.day, there.day)
    casks = [*here.casks_on(day), *there.casks_on(day)]
    fates = {**here.fates, **there.fates}
    if len(casks) > MOST_CASKS or len(fates) > MOST_NAMES:
        raise Full("at most twelve casks stand in a store, and it gives at most twenty-four names")
    store = Store(here.drying, day)
    standing = store.standing
    standing.marks = {**here.marks, **there.marks}
    standing.fates = fates
    standing.notes = by_age([own_note(note) for note in (*here.notes, *there.notes)])
    standing.go_to(day, [own_cask(cask) for cask in casks])
    return store


def given_in_both(one, other):
    """The marks and the names that were given here and there, all together, rising."""
    marks = [mark for mark in one.marks if mark in other.marks]
    names = [name for name in one.fates if name in other.fates]
    return sorted(marks + names)
