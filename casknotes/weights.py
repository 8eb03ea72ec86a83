"""Weights: exact shares of grains."""

from math import gcd

from casknotes.errors import NoText, NoWeight, NoWhole, Short
from casknotes.names import is_whole
from casknotes.numerals import TENS, is_numeral, show_whole

MOST_FIGURES = 12


class Weight:
    """So many grains, top / bottom, in lowest terms; it never changes."""

    def __init__(self, top, bottom=1):
        if is_whole(bottom) and bottom == 0:
            raise NoWhole("the bottom of a weight is not 0")
        if not is_whole(top) or not is_whole(bottom) or top < 0 or bottom < 0:
            raise NoWeight("a weight is a whole number from 0 on over one from 1 on")
        shared = gcd(top, bottom)
        self.top = top // shared
        self.bottom = bottom // shared

    def __eq__(self, other):
        return isinstance(other, Weight) and self.top == other.top and self.bottom == other.bottom

    def __str__(self):
        if self.bottom == 1:
            return f"{show_whole(self.top)}"
        return f"{show_whole(self.top)}/{show_whole(self.bottom)}"

    def __repr__(self):
        if self.bottom == 1:
            return f"Weight({show_whole(self.top)})"
        return f"Weight({show_whole(self.top)}, {show_whole(self.bottom)})"

    def plus(self, other):
        """The sum with another Weight."""
        top = self.top * other.bottom + other.top * self.bottom
        return Weight(top, self.bottom * other.bottom)

    def less(self, other):
        """What is left when another Weight goes, or Short(what lacks)."""
        if self.is_below(other):
            raise Short(other.less(self))
        top = self.top * other.bottom - other.top * self.bottom
        return Weight(top, self.bottom * other.bottom)

    def times(self, top, bottom=1):
        """This Weight, top / bottom times."""
        # As a Weight of its own top / bottom is refused where it is none.
        by = Weight(top, bottom)
        return Weight(self.top * by.top, self.bottom * by.bottom)

    def is_below(self, other):
        """Whether it is less than another Weight."""
        return self.top * other.bottom < other.top * self.bottom

    def is_nought(self):
        """Whether it is nothing."""
        return self.top == 0

    def whole_up(self):
        """The least whole number that is no less."""
        return (self.top + self.bottom - 1) // self.bottom


def is_number(text):
    """Whether a text is a number as those of Weights are read."""
    return is_numeral(text, TENS, MOST_FIGURES)


def read_weight(text):
    """The Weight that str tells so, or NoText."""
    if not isinstance(text, str):
        raise NoText(0)
    top, stroke, bottom = text.partition("/")
    if not stroke:
        bottom = "1"
    if not is_number(top) or not is_number(bottom) or bottom == "0":
        raise NoText(0)
    weight = Weight(int(top), int(bottom))
    # What is not in lowest terms, or ends in /1, is no text that str tells.
    if str(weight) != text:
        raise NoText(0)
    return weight


def total(weights):
    """The sum of Weights; of none it is nought."""
    result = Weight(0)
    for weight in weights:
        result = result.plus(weight)
    return result
