"""What falls to which note when a cask is sent."""

from casknotes.errors import NotBorne
from casknotes.notes import by_age
from casknotes.standing import grains_of, notes_of
from casknotes.weights import Weight


def with_first(notes, first):
    """Notes by age, the one called first ahead of them where it is there."""
    ahead = [note for note in notes if note.name == first]
    behind = [note for note in by_age(notes) if note.name != first]
    return (*ahead, *behind)


def falls(notes, grains):
    """So many grains fall to notes, one after the other: (name, grains) for each; NotBorne."""
    lacks = grains - grains_of(notes)
    if lacks > 0:
        raise NotBorne(Weight(lacks))
    rows = []
    left = grains
    for note in notes:
        fallen = min(note.grains, left)
        if fallen > 0:
            rows.append((note.name, fallen))
            left -= fallen
    return rows


def falls_of(cask, notes, first):
    """What falls to which note of the wares of a cask, part by part; NotBorne."""
    rows = []
    for ware, weight in cask.parts:
        rows.extend(falls(with_first(notes_of(notes, ware), first), weight.whole_up()))
    return tuple(rows)
