"""Deeds written in rows, each behind its day."""

from casknotes.deeds import is_deed
from casknotes.errors import NoText
from casknotes.names import is_day
from casknotes.numerals import show_whole
from casknotes.weights import Weight, is_number, read_weight

NONE = "-"


def show_row(day, deed):
    """The row that writes a deed and its day."""
    word, *handed = deed
    if word in ("merge", "pay"):
        # However many names there are, they are written last.
        names, *others = handed
        handed = [*others, names]
    return " ".join([str(day), word, *words_of(tuple(handed))])


def words_of(thing):
    """The words that write a thing of a deed."""
    if thing is None:
        return [NONE]
    if isinstance(thing, tuple):
        return [word for part in thing for word in words_of(part)]
    if isinstance(thing, str):
        return [thing]
    return [str(thing) if isinstance(thing, Weight) else show_whole(thing)]


def read_row(row):
    """The (day, deed) that a row writes, None where it writes none."""
    words = row.split(" ")
    if len(words) < 2:
        return None
    day = read_number(words[0])
    deed = deed_of(words[1], words[2:])
    return (day, deed) if is_day(day) and is_deed(deed) else None


def deed_of(word, words):
    """What a word and those behind it tell: a deed where they write one, else something that is none."""
    if word in ("cask", "weigh"):
        return (word, *words[:1], pairs_of(words[1:], read_part_weight))
    if word == "part":
        return (word, *words[:1], pairs_of(words[1:], read_number))
    if word == "burn":
        return (word, *words[:2], *[read_part_weight(one) for one in words[2:]])
    if word == "make":
        return (word, *words[:2], *[read_number(one) for one in words[2:]])
    if word == "merge":
        return (word, tuple(words[1:]), *words[:1])
    if word == "send":
        return (word, *words[:1], *[read_name_or_none(one) for one in words[1:]])
    if word == "pay":
        due = [read_number(one) for one in words[:1]]
        return (word, tuple(words[2:]), *due, *[read_name_or_none(one) for one in words[1:2]])
    if word == "fire":
        return (word, tuple(words))
    return (word, *words)


def pairs_of(words, read):
    """Words by twos, of each two the second one read by a function; None where one is left over."""
    if len(words) % 2 > 0:
        return None
    return tuple([(one, read(other)) for one, other in zip(words[::2], words[1::2])])


def read_number(word):
    """The whole number that a word writes, None where it writes none."""
    return int(word) if is_number(word) else None


def read_part_weight(word):
    """The Weight that a word writes, None where it writes none."""
    try:
        return read_weight(word)
    except NoText:
        return None


def read_name_or_none(word):
    """None where a word writes it, else the word."""
    return None if word == NONE else word
