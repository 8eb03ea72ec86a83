"""How to pay with few notes, and a paper that shows that nobody pays otherwise."""


def few_notes(grains, due):
    """(Which grains to pay with, a paper), as little beyond what is due and as few as can be; None of too few."""
    if sum(grains) < due:
        return None
    paper = paper_of(grains)
    best = min([pair for pair in paper[-1] if pair[0] >= due])
    return (chosen_for(grains, paper, best), paper)


def paper_of(grains):
    """Row by row each (sum, many) that some of the grains so far come to."""
    rows = [((0, 0),)]
    for number in grains:
        ahead = rows[-1]
        further = [(paid + number, many + 1) for paid, many in ahead]
        rows.append(tuple(sorted(set([*ahead, *further]))))
    return tuple(rows)


def chosen_for(grains, paper, pair):
    """Numbers of grains that come to this (sum, many) of the last row."""
    chosen = []
    for at in reversed(range(len(grains))):
        # What the grains ahead don't come to without these is come to with them.
        if pair not in paper[at]:
            chosen.append(at)
            pair = (pair[0] - grains[at], pair[1] - 1)
    return tuple(reversed(chosen))
