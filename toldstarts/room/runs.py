"""The search for the earliest start of a run, and papers that show that nothing earlier fits."""

from toldstarts.base.checks import is_whole
from toldstarts.errors import TooMany


def search(line, want, length, since, horizon, most):
    """The earliest start of a run, or None, and the bars up to it, or up to the horizon.

    A run that fits at the horizon or behind it fits ahead of it, too. More than `most` steps are refused.
    """
    wanted = [(at, want[kind]) for at, kind in enumerate(line.line_kinds) if kind in want]
    limit = horizon + length
    start, bars, steps, before = since, [], 0, None
    for first, stop, free in line.pieces(since, limit):
        if free != before:
            steps = steps + 1
            before = free
        if steps > most:
            raise TooMany(most)
        short = [at for at, number in wanted if free[at] < number]
        if short and start < horizon:
            kind = line.line_kinds[short[0]]
            bars.append((start, min(stop, horizon), ("short", kind, first, stop - 1)))
        if short:
            start = stop
        elif stop - start >= length:
            return start, tuple(bars)
    return None, tuple(bars)


def is_bar(value):
    """Whether the value has the form of a bar of some kind, whatever that is."""
    if not isinstance(value, tuple) or len(value) != 3:
        return False
    low, high, reason = value
    if not is_whole(low) or not is_whole(high) or not low < high:
        return False
    if not isinstance(reason, tuple) or len(reason) != 4:
        return False
    word, _, first, last = reason
    return word == "short" and is_whole(first) and is_whole(last) and 0 <= first <= last


def is_chain(value, length, since, end):
    """Whether the value is a tuple of bars that reach from one tick to another, if what they tell is true."""
    if not isinstance(value, tuple):
        return False
    at = since
    for bar in value:
        if not is_bar(bar):
            return False
        low, high, reason = bar
        first, last = reason[2:]
        if low != at or not first < low + length or not high - 1 <= last:
            return False
        at = high
    return at == end
