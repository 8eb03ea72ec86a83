"""What came of a deed that was told to a book."""

from casknotes.deeds import done
from casknotes.errors import Full, LostNote, NoMark, NoName, NoNote, NoSum, NotBorne, NoWare, Short, Twice


def outcome(store, day, deed):
    """A deed done to a store: (True, what it tells), or (False, the name of the refusal's class).

    What is a deed, on a day no less than the store's, is refused in these ways alone.
    """
    try:
        return (True, done(store, day, deed))
    except NoName:
        return (False, "NoName")
    except NoMark:
        return (False, "NoMark")
    except NoNote:
        return (False, "NoNote")
    except LostNote:
        return (False, "LostNote")
    except NotBorne:
        return (False, "NotBorne")
    except Short:
        return (False, "Short")
    except Twice:
        return (False, "Twice")
    except NoSum:
        return (False, "NoSum")
    except Full:
        return (False, "Full")
    except NoWare:
        return (False, "NoWare")
