"""Deeds of each form, and what a deed is as the document tells it."""

import re

from casknotes.weights import Weight
from things import FORTY_NINES, great_weight

W = Weight
FOUR = (("a", W(1)), ("ale", W(7, 2)), ("b", W(10 ** 12)), ("zed", W(1, 10 ** 12)))
LONG = tuple(["n" + one + two for one in "abcdefghij" for two in "abcdefghij"])

# Right ones, of each form several.
DEEDS = [
    ("cask", "c1", ()), ("cask", "c0", (("ale", W(20)),)), ("cask", "cffffff", FOUR),
    ("cask", "c1f", (("ale", great_weight()), ("rum", W(FORTY_NINES, 7)))),
    ("weigh", "c1", ()), ("weigh", "ca", (("ale", W(7, 2)), ("rum", W(3)))), ("weigh", "cabc", FOUR),
    ("burn", "c1", "ale", W(1)), ("burn", "c10", "zedzedze", W(1, 3)), ("burn", "c1", "c", great_weight()),
    ("make", "ann", "ale", 12), ("make", "c", "rum", 1), ("make", "ale", "ale", FORTY_NINES),
    ("part", "ann", (("fay", 5), ("gus", 7))), ("part", "ann", (("ann", 1), ("bo", FORTY_NINES), ("cy", 2))),
    ("part", "ann", tuple([(name, 1) for name in LONG])),
    ("merge", ("ann", "bo"), "fay"), ("merge", ("bo", "ann", "cy"), "ann"), ("merge", LONG, "x"),
    ("lose", "ann", "fay"), ("lose", "ann", "ann"),
    ("draw", "ann"), ("draw", "draw"),
    ("send", "c1", None), ("send", "c1", "ann"), ("send", "cab", "cab"),
    ("pay", ("ann",), 12, None), ("pay", ("ann", "bo"), 3, "fay"), ("pay", ("ann",), 1, "ann"),
    ("pay", LONG, FORTY_NINES, "x"),
    ("fire", ("c1",)), ("fire", ("c2", "c1", "ca")), ("fire", tuple(["c" + str(at) for at in range(200)])),
]


def is_name(thing):
    return thing.__class__ is str and re.fullmatch("[a-z]{1,8}", thing) is not None


def is_mark(thing):
    return thing.__class__ is str and re.fullmatch("c(0|[1-9a-f][0-9a-f]{0,5})", thing) is not None


def is_grains(thing):
    return thing.__class__ is int and thing > 0


def is_weight(thing):
    return thing.__class__ is Weight and thing.top > 0


def is_row_of(thing, *checks):
    return thing.__class__ is tuple and len(thing) == len(checks) and all(
        [check(part) for check, part in zip(checks, thing)])


def is_parts(thing):
    return (thing.__class__ is tuple and len(thing) <= 4 and all([is_row_of(row, is_name, is_weight) for row in thing])
            and [ware for ware, _ in thing] == sorted({ware for ware, _ in thing}))


def is_pieces(thing):
    return (thing.__class__ is tuple and len(thing) > 1 and all([is_row_of(row, is_name, is_grains) for row in thing])
            and len({name for name, _ in thing}) == len(thing))


def unlike(check, least):
    return lambda thing: (thing.__class__ is tuple and len(thing) >= least and all([check(part) for part in thing])
                          and len(set(thing)) == len(thing))


def is_name_or_none(thing):
    return thing is None or is_name(thing)


FORMS = {
    "cask": (is_mark, is_parts), "weigh": (is_mark, is_parts), "burn": (is_mark, is_name, is_weight),
    "make": (is_name, is_name, is_grains), "part": (is_name, is_pieces), "merge": (unlike(is_name, 2), is_name),
    "lose": (is_name, is_name), "draw": (is_name,), "send": (is_mark, is_name_or_none),
    "pay": (unlike(is_name, 1), is_grains, is_name_or_none), "fire": (unlike(is_mark, 1),),
}


def is_such(thing):
    """Whether it is a deed, as the document tells it."""
    if thing.__class__ is not tuple or not thing or thing[0].__class__ is not str or thing[0] not in FORMS:
        return False
    return is_row_of(thing[1:], *FORMS[thing[0]])
