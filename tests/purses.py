"""Grains to pay with, and papers as the document tells them, clause by clause."""

import itertools

from things import FORTY_NINES

# One to eight grains: alike, doubling, great ones, such that several choices are as good.
PURSES = [
    (1,), (7,), (5, 5), (1, 2), (9, 4), (3, 5, 8), (6, 6, 6), (5, 3, 2), (10 ** 12, 1, 10 ** 12 - 1),
    (4, 3, 2, 1), (7, 7, 7, 7), (1, 2, 4, 8), (2, 3, 5, 7, 11), (12, 1, 1, 1, 10), (1, 2, 4, 8, 16, 32),
    (6, 10, 15, 6, 10, 15), (100, 99, 98, 3, 2, 1, 1), (1, 1, 1, 1, 1, 1, 1, 1), (1, 2, 4, 8, 16, 32, 64, 128),
    (128, 64, 32, 16, 8, 4, 2, 1), (3, 3, 5, 5, 8, 8, 13, 13), (9, 2, 7, 4, 4, 11, 1, 6),
    (FORTY_NINES, FORTY_NINES - 1, 1), (10 ** 12,) * 8, (FORTY_NINES, 1, FORTY_NINES, 2, 3, 10 ** 39, 5, 10 ** 39),
]


def choices(grains):
    """All choices of some grains, as rising tuples of numbers."""
    numbers = list(range(len(grains)))
    return [found for many in range(len(grains) + 1) for found in itertools.combinations(numbers, many)]


def pair_of(grains, chosen):
    return (sum([grains[at] for at in chosen]), len(chosen))


def best_pair(grains, due):
    """The least sum that is no less, and as few as come to it; None where there is none."""
    return min([pair for pair in [pair_of(grains, chosen) for chosen in choices(grains)] if pair[0] >= due],
               default=None)


def dues(grains):
    """What may be due: one, just what some come to, one more and one less of it, all, more than all."""
    found = {1, sum(grains) + 1, sum(grains) * 2, 10 ** 40}
    for chosen in choices(grains)[1:]:
        paid = pair_of(grains, chosen)[0]
        found |= {paid, paid + 1, max(1, paid - 1)}
    return sorted(found)


def is_number(thing):
    return thing.__class__ is int and thing >= 0


def is_paper(thing, grains):
    """Whether it is a paper, each clause of the document by itself."""
    if thing.__class__ is not tuple or len(thing) != len(grains) + 1:
        return False
    for row in thing:
        if row.__class__ is not tuple:
            return False
        for pair in row:
            if pair.__class__ is not tuple or len(pair) != 2 or not is_number(pair[0]) or not is_number(pair[1]):
                return False
        if list(row) != sorted(set(row)):
            return False
    if (0, 0) not in thing[0]:
        return False
    for at, number in enumerate(grains):
        for paid, many in thing[at]:
            if (paid, many) not in thing[at + 1] or (paid + number, many + 1) not in thing[at + 1]:
                return False
    return True


def is_few(grains, due, thing):
    """Whether it is (chosen, paper), as the document tells it: the choice held against all choices, too."""
    if thing.__class__ is not tuple or len(thing) != 2:
        return False
    chosen, paper = thing
    if chosen.__class__ is not tuple or chosen not in choices(grains) or True in [at.__class__ is bool for at in chosen]:
        return False
    own = pair_of(grains, chosen)
    if own != best_pair(grains, due) or not is_paper(paper, grains):
        return False
    return [pair for pair in paper[-1] if pair[0] >= due and pair < own] == []


def least_paper(grains):
    """The paper that has what all choices come to, and nothing besides."""
    return tuple([tuple(sorted({pair_of(grains, chosen) for chosen in choices(grains[:many])}))
                  for many in range(len(grains) + 1)])


def closed(rows, grains):
    """Rows as they are, with all that is needed behind them put to them."""
    found = [set(rows[0]) | {(0, 0)}]
    for row, number in zip(rows[1:], grains):
        found.append(set(row) | found[-1] | {(paid + number, many + 1) for paid, many in found[-1]})
    return tuple([tuple(sorted(row)) for row in found])
