"""Whether a paper that somebody tells shows that nobody pays otherwise."""

from casknotes.names import are_rising, is_whole


def few_holds(grains, due, thing):
    """Whether it is (chosen, paper) of grains and what is due, whoever wrote it."""
    if not isinstance(thing, tuple) or len(thing) != 2:
        return False
    chosen, paper = thing
    if not is_chosen(chosen, len(grains)) or not is_paper(paper, grains):
        return False
    own = (sum([grains[at] for at in chosen]), len(chosen))
    return own[0] >= due and all([pair[0] < due or pair >= own for pair in paper[-1]])


def is_chosen(thing, many):
    """Whether it is a rising tuple of numbers below so many."""
    if not isinstance(thing, tuple):
        return False
    return all([is_whole(at) and 0 <= at < many for at in thing]) and are_rising(thing)


def is_paper(thing, grains):
    """Whether it is rows that leave out nothing that some of the grains come to."""
    if not isinstance(thing, tuple) or len(thing) != len(grains) + 1:
        return False
    if not all([is_row(row) for row in thing]) or (0, 0) not in thing[0]:
        return False
    return all([goes_on(ahead, row, number) for ahead, row, number in zip(thing, thing[1:], grains)])


def is_row(thing):
    """Whether it is a rising tuple of pairs."""
    return isinstance(thing, tuple) and all([is_pair(pair) for pair in thing]) and are_rising(thing)


def is_pair(thing):
    """Whether it is (sum, many), whole numbers from 0 on."""
    if not isinstance(thing, tuple) or len(thing) != 2:
        return False
    return all([is_whole(number) and number >= 0 for number in thing])


def goes_on(ahead, row, number):
    """Whether a row has each pair of the one ahead, without the next grains and with them."""
    found = {pair: True for pair in row}
    return all([pair in found and (pair[0] + number, pair[1] + 1) in found for pair in ahead])
