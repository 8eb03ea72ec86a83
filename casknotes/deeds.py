"""Deeds: what is done to a store, told in tuples."""

from casknotes.casks import is_part, is_parts
from casknotes.names import is_grains, is_mark, is_name

# How many things each word has behind it.
PLACES = {"cask": 2, "weigh": 2, "burn": 3, "make": 3, "part": 2, "merge": 2, "lose": 2, "draw": 1, "send": 2,
          "pay": 3, "fire": 1}


def is_deed(thing):
    """Whether it is a deed."""
    if not isinstance(thing, tuple) or len(thing) == 0:
        return False
    word, *handed = thing
    if not isinstance(word, str) or PLACES.get(word) != len(handed):
        return False
    if word in ("cask", "weigh", "burn", "send", "fire"):
        return is_casks_deed(word, handed)
    return is_notes_deed(word, handed)


def is_casks_deed(word, handed):
    """Whether these are the things that the word of a deed with casks has behind it."""
    if word == "fire":
        return are_marks(handed[0])
    if not is_mark(handed[0]):
        return False
    if word == "burn":
        return is_part((handed[1], handed[2]))
    if word == "send":
        return is_name_or_none(handed[1])
    return is_parts(handed[1])


def is_notes_deed(word, handed):
    """Whether these are the things that the word of a deed with notes has behind it."""
    if word == "merge":
        return are_names(handed[0], 2) and is_name(handed[1])
    if word == "pay":
        return are_names(handed[0], 1) and is_grains(handed[1]) and is_name_or_none(handed[2])
    if not is_name(handed[0]):
        return False
    if word == "make":
        return is_name(handed[1]) and is_grains(handed[2])
    if word == "part":
        return are_pieces(handed[1])
    if word == "lose":
        return is_name(handed[1])
    return word == "draw"


def is_name_or_none(thing):
    """Whether it is a name, or None."""
    return thing is None or is_name(thing)


def are_unlike(texts):
    """Whether no text is told twice."""
    return len(set(texts)) == len(texts)


def are_names(thing, least):
    """Whether it is a tuple of so many names or more, unlike."""
    if not isinstance(thing, tuple) or len(thing) < least:
        return False
    return all([is_name(name) for name in thing]) and are_unlike(thing)


def are_marks(thing):
    """Whether it is a tuple of one or more marks, unlike."""
    if not isinstance(thing, tuple) or len(thing) == 0:
        return False
    return all([is_mark(mark) for mark in thing]) and are_unlike(thing)


def is_piece(thing):
    """Whether it is (name, grains)."""
    return isinstance(thing, tuple) and len(thing) == 2 and is_name(thing[0]) and is_grains(thing[1])


def are_pieces(thing):
    """Whether it is a tuple of two or more pieces, their names unlike."""
    if not isinstance(thing, tuple) or len(thing) < 2:
        return False
    return all([is_piece(piece) for piece in thing]) and are_unlike([name for name, _ in thing])


def done(store, day, deed):
    """A deed done to a store: what the store tells."""
    word, *handed = deed
    match word:
        case "cask":
            return store.cask(day, *handed)
        case "weigh":
            return store.weigh(day, *handed)
        case "burn":
            return store.burn(day, *handed)
        case "make":
            return store.make(day, *handed)
        case "part":
            return store.part(day, *handed)
        case "merge":
            return store.merge(day, *handed)
        case "lose":
            return store.lose(day, *handed)
        case "draw":
            return store.draw(day, *handed)
        case "send":
            return store.send(day, *handed)
        case "pay":
            return store.pay(day, *handed)
        case _:
            return store.fire(day, *handed)
