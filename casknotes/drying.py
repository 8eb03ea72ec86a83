"""Drying: what the turn of a month takes from the casks."""

from casknotes.casks import Cask
from casknotes.names import are_rising, is_name, is_whole

MOST_WARES = 4
MOST_BOTTOM = 100
MONTH = 30


def is_loss(thing):
    """Whether it is a row of a drying, (ware, top, bottom)."""
    if not isinstance(thing, tuple) or len(thing) != 3:
        return False
    ware, top, bottom = thing
    if not is_name(ware) or not is_whole(top) or not is_whole(bottom):
        return False
    return 0 <= top < bottom <= MOST_BOTTOM


def is_drying(thing):
    """Whether it is a drying."""
    if not isinstance(thing, tuple) or len(thing) > MOST_WARES:
        return False
    if not all([is_loss(row) for row in thing]):
        return False
    return are_rising([ware for ware, _, _ in thing])


def turns(day, until):
    """How many months turn behind a day, up to and with another one."""
    return until // MONTH - day // MONTH


def power(number, many):
    """A whole number, so many times with itself."""
    result = 1
    for _ in range(many):
        result *= number
    return result


def dried_weight(weight, ware, drying, many=1):
    """A Weight of a ware behind so many turns."""
    for name, top, bottom in drying:
        if name == ware:
            return weight.times(power(bottom - top, many), power(bottom, many))
    return weight


def dried(cask, drying, many=1):
    """A cask behind so many turns."""
    parts = [(ware, dried_weight(weight, ware, drying, many)) for ware, weight in cask.parts]
    return Cask(cask.mark, cask.since, tuple(parts))
