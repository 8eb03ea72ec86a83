"""Whether a thing of any kind is just what is told."""


def is_alike(thing, told):
    """Whether it is what is told, of just these kinds at any depth."""
    if isinstance(told, tuple):
        if not isinstance(thing, tuple) or len(thing) != len(told):
            return False
        return all([is_alike(part, due) for part, due in zip(thing, told)])
    # To Python a truth is equal to a whole number.
    return isinstance(thing, bool) == isinstance(told, bool) and thing == told
