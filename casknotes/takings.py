"""Takings: from which casks so many grains are taken."""

from casknotes.casks import casks_by_age
from casknotes.errors import Short
from casknotes.weights import Weight, total


def taking(casks, ware, grains):
    """So many grains of a ware from the eldest casks, (mark, Weight) for each as taken; Short."""
    rows = []
    left = Weight(grains)
    for cask in casks_by_age(casks):
        had = cask.weight_of(ware)
        taken = left if left.is_below(had) else had
        if not taken.is_nought():
            rows.append((cask.mark, taken))
            left = left.less(taken)
    if not left.is_nought():
        raise Short(left)
    return tuple(rows)


def is_taken(thing):
    """Whether it is of the form (mark, Weight above nought)."""
    if not isinstance(thing, tuple) or len(thing) != 2:
        return False
    mark, weight = thing
    return isinstance(mark, str) and isinstance(weight, Weight) and not weight.is_nought()


def taking_holds(casks, ware, grains, thing):
    """Whether it is any taking of so many grains of a ware from these casks, each once, in any order."""
    if not isinstance(thing, tuple) or not all([is_taken(row) for row in thing]):
        return False
    marks = [mark for mark, _ in thing]
    if len(set(marks)) < len(marks):
        return False
    had = {cask.mark: cask.weight_of(ware) for cask in casks}
    if not all([mark in had and not had[mark].is_below(weight) for mark, weight in thing]):
        return False
    return total(tuple([weight for _, weight in thing])) == Weight(grains)
