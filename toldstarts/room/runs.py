"""The search for the earliest start of a run, and papers that show that nothing earlier fits.

What a run wants is told by packed numbers and by the tops of their fields. A short piece is a triple
(first, stop, kind): from first up to stop too little of the kind is free.
"""

from toldstarts.base.checks import is_whole


def first_start(line, wanted, tops, length, since, horizon):
    """The earliest start of a run, or None. A run that fits at the horizon or behind it fits ahead of it, too."""
    start = since
    for first, stop, base, pattern in line.cuts(since, horizon + length):
        rest = base - wanted
        if (rest - pattern.least_held) & tops != tops:
            start = stop
        elif (rest - pattern.most_held) & tops != tops:
            start = _start_beside(pattern, rest, tops, length, start, first, stop)
        if stop - start >= length:
            return start
    return None


def _start_beside(pattern, rest, tops, length, start, first, stop):
    """The earliest start of a run that fits up to a tick, or where the last short piece ahead of it ends.

    All ticks from `start` to `first` are good. A gap between short pieces comes again in each period, so
    it is enough to look at the first two periods and at what is left behind the last whole one.
    """
    pieces = [(low, high, free & tops == tops) for low, high, free in pattern.pieces(first, stop, rest)]
    periods = (stop - first) // pattern.cycle
    for turn in [0, 1] + ([periods] if periods > 1 else []):
        if turn > 2:
            start = start + (turn - 2) * pattern.cycle
        for low, high, is_good in pieces:
            end = min(high + turn * pattern.cycle, stop)
            if is_good and end - start >= length:
                return start
            if not is_good and low + turn * pattern.cycle < stop:
                start = end
    return start


def bars_to(line, wanted, tops, since, end, horizon):
    """The bars up to an end that is the earliest start, or up to the horizon ahead of it."""
    pieces = []
    for first, stop, base, pattern in line.cuts(since, end):
        pieces.extend(_short_pieces(line, pattern, base - wanted, tops, first, stop))
    lows = [since] + [stop for _, stop, _ in pieces]
    return tuple([(low, min(stop, horizon), ("short", kind, first, stop - 1))
                  for low, (first, stop, kind) in zip(lows, pieces) if low < horizon])


def _short_pieces(line, pattern, rest, tops, first, stop):
    """The short pieces from one tick up to another, ascending."""
    if (rest - pattern.most_held) & tops == tops:
        return []
    if (rest - pattern.least_held) & tops != tops:
        return [(first, stop, line.fields.least_short(rest - pattern.least_held, tops))]
    found = [(low, high, line.fields.least_short(free, tops))
             for low, high, free in pattern.pieces(first, stop, rest) if free & tops != tops]
    turns = range(0, stop - first, pattern.cycle)
    rows = [(low + turn, high + turn, kind) for turn in turns for low, high, kind in found]
    while rows and rows[-1][0] >= stop:
        rows.pop()
    if rows and rows[-1][1] > stop:
        rows[-1] = (rows[-1][0], stop, rows[-1][2])
    return rows


def is_bar(value):
    """Whether the value has the form of a bar of some kind, whatever that is."""
    if not isinstance(value, tuple) or len(value) != 3:
        return False
    low, high, reason = value
    if not is_whole(low) or not is_whole(high) or not low < high:
        return False
    if not isinstance(reason, tuple) or len(reason) != 4:
        return False
    word, _, first, last = reason
    return word == "short" and is_whole(first) and is_whole(last) and 0 <= first <= last


def is_chain(value, length, since, end):
    """Whether the value is a tuple of bars that reach from one tick to another, if what they tell is true."""
    if not isinstance(value, tuple):
        return False
    at = since
    for bar in value:
        if not is_bar(bar):
            return False
        low, high, reason = bar
        first, last = reason[2:]
        if low != at or not first < low + length or not high - 1 <= last:
            return False
        at = high
    return at == end
