"""Things of all kinds, to be handed in where the document says "of anything"."""

from casknotes.weights import Weight


def nested(inner, kind, many):
    """A thing with so many tuples, lists or dicts around it."""
    for _ in range(many):
        if kind is dict:
            inner = {"a": inner}
        else:
            inner = kind([inner])
    return inner


def great_weight():
    """A Weight that is reckoned, (10 ** 12 - 11) ** 600 over 7 ** 8400: about seven thousand figures each."""
    weight = Weight(1)
    for _ in range(600):
        weight = weight.times(10 ** 12 - 11, 7 ** 14)
    return weight


# What is neither a text nor a whole number.
OTHER_KINDS = [
    True, False, None,
    (), [], {}, ("a",), ["a"], {"a": "a"}, ("c1",), ["c1"], {"c1": "c1"},
    (1,), [1], {1: 1}, (0,), [0], {0: 0}, (1, 2), [7, 2], ("7", "2"),
    (True, False, None), {None: None}, {True: False}, {("a", 1): ["a"]},
    Weight(0), Weight(1), Weight(7, 2), great_weight(),
    (Weight(1),), [Weight(1)], {"ale": Weight(1)}, (("ale", Weight(1)),),
    nested("ale", tuple, 30), nested("ale", list, 30), nested("ale", dict, 30),
    nested(1, tuple, 30), nested(1, list, 30), nested(1, dict, 30),
    nested(Weight(1), tuple, 29), ("a",) * 5999, [1] * 5999, {at: "a" for at in range(2999)},
]

# Texts that are no name, no mark and no Weight.
ODD_TEXTS = [
    "", " ", "\n", "-", "_", "~", "/", "a b", "c 1", "None", "True", "False",
    "Weight(1)", "Ale", "aLe", "C1", "a" * 8000, "0" * 8000, "c" + "1" * 7999, "\n" * 8000, " " * 8000,
]

FORTY_NINES = 10 ** 40 - 1
