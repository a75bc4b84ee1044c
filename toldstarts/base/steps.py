"""Numbers that stay the same for some ticks: the ascending ticks from which on there is another one, and the numbers.

The first tick is 0, and the last number stays for ever. Neither list that is passed is changed.
"""

from toldstarts.base.checks import place_of


def split_steps(ticks, rows, tick):
    """The place of the part that begins at a tick; if there is none, one is made of the part in which it lies.

    Both lists are changed here: they are those of the caller alone.
    """
    at = place_of(ticks, tick)
    if ticks[at] < tick:
        at = at + 1
        ticks.insert(at, tick)
        rows.insert(at, rows[at - 1])
    return at


def lowered_steps(ticks, bases, begin, end, held):
    """The ticks and numbers if from one tick up to another, or for ever, so much less is there."""
    ticks, bases = list(ticks), list(bases)
    low = split_steps(ticks, bases, begin)
    high = len(ticks) if end is None else split_steps(ticks, bases, end)
    bases[low:high] = [base - held for base in bases[low:high]]
    # Where the number is no longer another one, two parts become one again: the later ones first.
    for at in (high, low):
        if 0 < at < len(ticks) and bases[at] == bases[at - 1]:
            del ticks[at]
            del bases[at]
    return ticks, bases
