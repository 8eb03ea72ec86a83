"""Things of all kinds, to be handed in where the document says "of anything"."""

from casknotes.casks import Cask
from casknotes.notes import Note
from casknotes.weights import Weight


def nested(inner, kind, many):
    """A thing with so many tuples, lists or dicts around it."""
    for _ in range(many):
        if kind is dict:
            inner = {"a": inner}
        else:
            inner = kind([inner])
    return inner


def great_weight():
    """A Weight that is reckoned, (10 ** 12 - 11) ** 600 over 7 ** 8400: about seven thousand figures each."""
    weight = Weight(1)
    for _ in range(600):
        weight = weight.times(10 ** 12 - 11, 7 ** 14)
    return weight


# What is neither a text nor a whole number.
OTHER_KINDS = [
    True, False, None,
    (), [], {}, ("a",), ["a"], {"a": "a"}, ("c1",), ["c1"], {"c1": "c1"},
    (1,), [1], {1: 1}, (0,), [0], {0: 0}, (1, 2), [7, 2], ("7", "2"),
    (True, False, None), {None: None}, {True: False}, {("a", 1): ["a"]},
    Weight(0), Weight(1), Weight(7, 2), great_weight(),
    (Weight(1),), [Weight(1)], {"ale": Weight(1)}, (("ale", Weight(1)),),
    Note("ann", "ale", 12, 30), (Note("ann", "ale", 12),), [Note("bo", "rum", 1)],
    Cask("c1f", 30, (("ale", Weight(7, 2)),)), Cask("c0", 4), (Cask("c0", 4),), {"c0": Cask("c0", 4)},
    nested("ale", tuple, 30), nested("ale", list, 30), nested("ale", dict, 30),
    nested(1, tuple, 30), nested(1, list, 30), nested(1, dict, 30),
    nested(Weight(1), tuple, 29), nested(Note("ann", "ale", 12), list, 29), nested(Cask("c0", 4), dict, 29),
    ("a",) * 5999, [1] * 5999, {at: "a" for at in range(2999)},
]

def spoiled(thing):
    """Things that are like this one, but otherwise in one place at any depth."""
    found = others(thing)
    if isinstance(thing, tuple):
        for at, part in enumerate(thing):
            found += [thing[:at] + (other,) + thing[at + 1:] for other in spoiled(part)]
            found.append(thing[:at] + thing[at + 1:])
            found.append(thing[:at] + (part, part) + thing[at + 1:])
            found.append(thing[:at] + (None,) + thing[at:])
        for at in range(len(thing) - 1):
            if thing[at] != thing[at + 1]:
                found.append(thing[:at] + (thing[at + 1], thing[at]) + thing[at + 2:])
        found.append(thing + (None,))
        found.append(thing + ((),))
    return found


def others(thing):
    """Things in the stead of this one that are otherwise, some of them equal to Python."""
    found = [other for other in OTHER_KINDS + ["ale", "zed", 0, 1, 2, -1, FORTY_NINES]
             if not (other.__class__ is thing.__class__ and other == thing)]
    if isinstance(thing, tuple):
        found += [list(thing), (thing,), [thing], {at: part for at, part in enumerate(thing)}]
    if isinstance(thing, bool):
        found += [int(thing), str(thing), not thing]
    elif isinstance(thing, int):
        found += [thing + 1, thing - 1, -thing - 1, str(thing), Weight(abs(thing)), (thing,)]
    if isinstance(thing, str):
        found += [thing + "a", thing[1:] + "q", thing + "\n", " " + thing, thing.upper() + "A", [thing]]
    if isinstance(thing, Weight):
        found += [thing.plus(Weight(1, 10 ** 9)), thing.plus(Weight(1)), str(thing), (thing.top, thing.bottom),
                  thing.whole_up(), thing.top]
    return found


# Texts that are no name, no mark and no Weight.
ODD_TEXTS = [
    "", " ", "\n", "-", "_", "~", "/", "a b", "c 1", "None", "True", "False",
    "Weight(1)", "Ale", "aLe", "C1", "a" * 8000, "0" * 8000, "c" + "1" * 7999, "\n" * 8000, " " * 8000,
]

FORTY_NINES = 10 ** 40 - 1
