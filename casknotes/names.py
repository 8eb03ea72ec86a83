"""What a name, a mark, grains and a day are."""

from casknotes.numerals import SIXTEENS, is_numeral, made_of

LETTERS = "abcdefghijklmnopqrstuvwxyz"
MOST_LETTERS = 8
MOST_FIGURES = 6
LAST_DAY = 1200


def is_whole(thing):
    """Whether it is a whole number."""
    # To Python a truth is an int, too.
    return isinstance(thing, int) and not isinstance(thing, bool)


def is_name(thing):
    """Whether it is a name; a ware is one, too."""
    if not isinstance(thing, str):
        return False
    return 1 <= len(thing) <= MOST_LETTERS and made_of(thing, LETTERS)


def are_rising(things):
    """Whether things of one kind, as names, rise, each once."""
    return all([one < other for one, other in zip(things, things[1:])])


def is_mark(thing):
    """Whether it is the mark of a cask."""
    if not isinstance(thing, str):
        return False
    return thing.startswith("c") and is_numeral(thing[1:], SIXTEENS, MOST_FIGURES)


def is_grains(thing):
    """Whether it is a number of grains."""
    return is_whole(thing) and thing >= 1


def is_day(thing):
    """Whether it is a day."""
    return is_whole(thing) and 0 <= thing <= LAST_DAY


def mark_number(mark):
    """The whole number that a mark tells; marks stand by it."""
    return int(mark[1:], 16)
