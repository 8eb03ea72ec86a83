"""Casks and their parts, each part a Weight of a ware."""

from casknotes.errors import NoDay, NoName, NoWare, NoWeight
from casknotes.names import are_rising, is_day, is_mark, is_name, mark_number
from casknotes.weights import Weight

MOST_PARTS = 4


def is_part(thing):
    """Whether it is a part of a cask, (ware, Weight above nought)."""
    if not isinstance(thing, tuple) or len(thing) != 2:
        return False
    ware, weight = thing
    return is_name(ware) and isinstance(weight, Weight) and not weight.is_nought()


def is_parts(thing):
    """Whether it is the parts of a cask."""
    if not isinstance(thing, tuple) or len(thing) > MOST_PARTS:
        return False
    if not all([is_part(part) for part in thing]):
        return False
    return are_rising([ware for ware, _ in thing])


class Cask:
    """A cask that stands since a day, with its parts; it never changes."""

    def __init__(self, mark, since, parts=None):
        held = () if parts is None else parts
        if not is_mark(mark):
            raise NoName("a cask has a mark")
        if not is_day(since):
            raise NoDay("a cask stands since a day")
        if not is_parts(held):
            raise NoWeight("the parts of a cask are none to four wares, rising, with Weights above nought")
        self.mark = mark
        self.since = since
        self.parts = held

    def __eq__(self, other):
        return (isinstance(other, Cask) and self.mark == other.mark and self.since == other.since
                and self.parts == other.parts)

    def __len__(self):
        return len(self.parts)

    def __str__(self):
        shown = ",".join([f" {ware} {weight}" for ware, weight in self.parts])
        return f"{self.mark} {self.since}:{shown}"

    def __repr__(self):
        return f"Cask({self.mark!r}, {self.since}, {self.parts!r})"

    def part(self, ware):
        """The Weight of a ware that it has, or NoWare."""
        for name, weight in self.parts:
            if name == ware:
                return weight
        raise NoWare(ware)

    def weight_of(self, ware):
        """The Weight of a ware, nought where it has none."""
        try:
            return self.part(ware)
        except NoWare:
            return Weight(0)

    def lessened(self, ware, weight):
        """This cask with so much less of a ware that it has; NoWare, Short."""
        rest = self.part(ware).less(weight)
        parts = [(name, rest if name == ware else had) for name, had in self.parts]
        kept = tuple([part for part in parts if not part[1].is_nought()])
        return Cask(self.mark, self.since, kept)


def casks_by_age(casks):
    """Casks by the days they stand since, those of a day by their marks' numbers."""
    return tuple(sorted(casks, key=lambda cask: (cask.since, mark_number(cask.mark))))
