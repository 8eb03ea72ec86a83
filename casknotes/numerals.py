"""Whole numbers written in figures."""

TENS = "0123456789"
SIXTEENS = "0123456789abcdef"

# Python refuses to write more than 4,300 figures at once, and may be told to
# refuse more than 640; so great numbers are written in blocks of fewer.
BLOCK_LENGTH = 512
BLOCK = (10 ** 64) ** 8


def made_of(text, signs):
    """Whether each sign of a text is one of these."""
    return all([sign in signs for sign in text])


def is_numeral(text, signs, most):
    """Whether a text is one to so many of these figures, without noughts ahead."""
    if not 1 <= len(text) <= most:
        return False
    if text[0] == "0" and text != "0":
        return False
    return made_of(text, signs)


def show_whole(number):
    """A whole number from 0 on, however great, in figures."""
    blocks = []
    while number >= BLOCK:
        number, low = divmod(number, BLOCK)
        blocks.append(str(low).zfill(BLOCK_LENGTH))
    blocks.append(str(number))
    return "".join(reversed(blocks))
