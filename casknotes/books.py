"""Books of deeds, told with their days in any order."""

from casknotes.deeds import is_deed
from casknotes.errors import NoDay, NoDeed, NoPlace
from casknotes.names import is_day, is_whole
from casknotes.outcomes import outcome
from casknotes.stores import Store
from casknotes.weights import Weight


class Book:
    """The deeds that count, each as (day, deed) under its number; what is told late counts as told in time."""

    def __init__(self, drying=None):
        self.drying = () if drying is None else drying
        self.deeds = {}
        # Struck ones are counted, too, so a number is never given again.
        self.many = 0

    def __eq__(self, other):
        return isinstance(other, Book) and self.drying == other.drying and by_days(self) == by_days(other)

    def __len__(self):
        return len(self.deeds)

    def tell(self, day, deed):
        """A deed is told with its day: tells its number; NoDay, NoDeed."""
        if not is_day(day):
            raise NoDay("a deed is told with a day")
        if not is_deed(deed):
            raise NoDeed("it is no deed")
        number = self.many
        self.deeds[number] = (day, own_deed(deed))
        self.many += 1
        return number

    def strike(self, number):
        """The deed with this number counts no more; NoPlace."""
        self._check_place(number)
        del self.deeds[number]

    def deed(self, number):
        """The (day, deed) with this number; NoPlace."""
        self._check_place(number)
        day, deed = self.deeds[number]
        return (day, own_deed(deed))

    def store(self):
        """A new store that was told the deeds that count by their days, from day 0 on."""
        store = Store(self.drying)
        for day, deed in by_days(self):
            outcome(store, day, deed)
        return store

    def results(self):
        """By their numbers (number, True, what the store told) or (number, False, the name of the refusal's class)."""
        store = Store(self.drying)
        came = {}
        for number in numbers_by_days(self):
            day, deed = self.deeds[number]
            came[number] = outcome(store, day, deed)
        return tuple([(number, *came[number]) for number in sorted(came)])

    def _check_place(self, number):
        """NoPlace where it is no number of a deed that counts."""
        if not is_whole(number) or number not in self.deeds:
            raise NoPlace(number)


def numbers_by_days(book):
    """The numbers of the deeds that count by their days, those of a day as they were told."""
    return [number for _, number in sorted([(book.deeds[number][0], number) for number in book.deeds])]


def by_days(book):
    """The (day, deed)s that count by their days, those of a day as they were told."""
    return [book.deeds[number] for number in numbers_by_days(book)]


# To Python the fields of a Weight can be set; so a book tells, and keeps of what
# is handed in, new ones alone.


def own_deed(thing):
    """A deed, or a thing of one, with new Weights."""
    if isinstance(thing, tuple):
        return tuple([own_deed(part) for part in thing])
    return thing.times(1) if isinstance(thing, Weight) else thing
