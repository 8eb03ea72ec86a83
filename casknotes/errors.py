"""What Casknotes refuses, one class for each kind of refusal."""


class CaskError(ValueError):
    """Something that Casknotes refuses."""


class Wrong(CaskError):
    """What is handed in is not of the form that it must have."""


class NoName(Wrong):
    """It is no name, no ware or no mark."""


class NoGrains(Wrong):
    """It is not grains."""


class NoDay(Wrong):
    """It is no day."""


class NoWeight(Wrong):
    """It is no Weight, or no parts."""


class NoDeed(Wrong):
    """It is no deed."""


class NoRow(Wrong):
    """It is no row that a desk knows."""


class NoText(Wrong):
    """A text can't be read: row is the first one, from 0 on, that isn't so."""

    def __init__(self, row=0):
        self.row = row


class Unknown(CaskError):
    """What is called so does not stand in the store."""

    def __init__(self, what):
        self.what = what


class NoMark(Unknown):
    """No cask with this mark stands in the store."""


class NoNote(Unknown):
    """No note with this name stands in the store."""


class LostNote(Unknown):
    """The note with this name was lost."""


class Unborne(CaskError):
    """There is less than is asked for: lacks is what lacks."""

    def __init__(self, lacks):
        self.lacks = lacks


class NotBorne(Unborne):
    """The casks don't bear the notes, or the notes don't bear a sending."""


class Short(Unborne):
    """There is less than should be taken."""


class Twice(CaskError):
    """What is given once was given before."""

    def __init__(self, what):
        self.what = what


class TooLate(CaskError):
    """It is told too late: the store is at this day."""

    def __init__(self, day):
        self.day = day


class NoSum(CaskError):
    """Grains don't come to what they should, or wares are unlike."""


class Full(CaskError):
    """No more finds room."""


class NotAlike(CaskError):
    """Two stores dry unlike."""


class NoWhole(ZeroDivisionError):
    """A bottom is 0."""


class NoWare(KeyError):
    """A cask does not have this ware."""

    def __init__(self, ware):
        self.ware = ware


class NoPlace(IndexError):
    """No deed that counts has this number."""

    def __init__(self, number):
        self.number = number
