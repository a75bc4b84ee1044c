"""What is free of some kinds at each tick, from 0 on for ever.

Numbers of some kinds are a tuple here, in the order of the kinds. A stretch is a tuple
(begin, end, base, pattern), with None as the end of the last one. From its begin to its end no claim
and no window begins or ends for good: base is what no claim holds, and the pattern tells what the
windows hold. A pattern is a list of pairs (phase, numbers) by ascending phases, the first one 0: in
each period the numbers are held from the tick with this phase up to the next one.
"""


class Line:
    """What is free of some kinds at each tick."""

    def __init__(self, amounts, claims, windows, period, kinds):
        borders = _borders(claims, windows)
        bases = _bases(borders, dict(amounts.pairs), claims, kinds)
        self.line_kinds = kinds
        self.line_period = period
        self.stretches = _stretches(borders, bases, windows, period, kinds)

    def cuts(self, begin, end):
        """The stretches from one tick up to another one, cut off at both."""
        found = []
        at = self._place(begin)
        while at < len(self.stretches) and self.stretches[at][0] < end:
            low, high, base, pattern = self.stretches[at]
            found.append((max(begin, low), end if high is None else min(end, high), base, pattern))
            at = at + 1
        return found

    def _place(self, tick):
        """The index of the stretch in which a tick lies."""
        low, high = 0, len(self.stretches)
        while high - low > 1:
            middle = (low + high) // 2
            if self.stretches[middle][0] <= tick:
                low = middle
            else:
                high = middle
        return low

    def pieces(self, begin, end):
        """Yield triples (first, stop, free) from one tick up to another: the same is free from first up to stop."""
        for first, stop, base, pattern in self.cuts(begin, end):
            yield from cut_pieces(base, pattern, self.line_period, first, stop)

    def sights(self, begin, end):
        """Yield such triples for one period of each stretch at most: what is free later in it was free before."""
        for first, stop, base, pattern in self.cuts(begin, end):
            seen = min(stop, first + self.line_period)
            yield from cut_pieces(base, pattern, self.line_period, first, seen)

    def least(self, begin, end):
        """The least number of each kind that is free from one tick up to another."""
        found = None
        for row in self.sights(begin, end):
            found = row[2] if found is None else tuple([min(pair) for pair in zip(found, row[2])])
        return found

    def is_short(self, at, number, begin, end):
        """Whether at each tick from one up to another less than a number is free of the kind with an index."""
        return all([row[2][at] < number for row in self.sights(begin, end)])


def cut_pieces(base, pattern, period, first, stop):
    """Yield the pieces of a part of a stretch."""
    if len(pattern) == 1:
        yield first, stop, _free_beside(base, pattern[0][1])
        return
    ends = [phase for phase, _ in pattern[1:]] + [period]
    # A phase comes again in each period: what is free in it is worked out once.
    frees = {}
    tick = first
    turn = first - first % period
    at = 0
    while turn + ends[at] <= first:
        at = at + 1
    while tick < stop:
        end = min(turn + ends[at], stop)
        if at not in frees:
            frees[at] = _free_beside(base, pattern[at][1])
        yield tick, end, frees[at]
        tick = end
        at = at + 1
        if at == len(ends):
            at = 0
            turn = turn + period


def _free_beside(base, numbers):
    """What is left of the numbers of a base beside those that windows hold."""
    return tuple([has - held for has, held in zip(base, numbers)])


def head_of(claims, windows):
    """The tick from which on the same is free a period later."""
    ends = [begin if end is None else end for begin, end, _ in claims]
    return max([0] + ends + [window[0] for window in windows])


def held_ticks(begin, end, claim):
    """At how many ticks from begin up to end a claim holds."""
    low, high, _ = claim
    last = end if high is None else min(end, high)
    return max(0, last - max(begin, low))


def window_ticks(begin, end, window, period):
    """At how many ticks from begin up to end a window holds."""
    return _window_ticks_ahead(end, window, period) - _window_ticks_ahead(begin, window, period)


def _window_ticks_ahead(tick, window, period):
    """At how many ticks ahead of a tick a window holds."""
    begin, length, _ = window
    periods, rest = divmod(max(0, tick - begin), period)
    return periods * length + min(rest, length)


def _borders(claims, windows):
    """The ticks at which stretches begin, ascending."""
    ticks = {0: True}
    for begin, end, _ in claims:
        ticks[begin] = True
        if end is not None:
            ticks[end] = True
    for window in windows:
        ticks[window[0]] = True
    return sorted(ticks)


def _bases(borders, numbers, claims, kinds):
    """What no claim holds, from each border on."""
    places = {kind: at for at, kind in enumerate(kinds)}
    changes = {tick: [] for tick in borders}
    for begin, end, held in claims:
        for kind, number in held.pairs:
            if kind in places:
                changes[begin].append((places[kind], -number))
                if end is not None:
                    changes[end].append((places[kind], number))
    now = [numbers.get(kind, 0) for kind in kinds]
    bases = []
    for tick in borders:
        for at, change in changes[tick]:
            now[at] = now[at] + change
        bases.append(tuple(now))
    return bases


def _stretches(borders, bases, windows, period, kinds):
    """All stretches, ascending."""
    ends = borders[1:] + [None]
    found, begun = [], []
    pattern = _pattern(begun, period, kinds)
    for begin, end, base in zip(borders, ends, bases):
        windows_now = [window for window in windows if window[0] <= begin]
        if len(windows_now) > len(begun):
            begun = windows_now
            pattern = _pattern(begun, period, kinds)
        found.append((begin, end, base, pattern))
    return found


def _pattern(windows, period, kinds):
    """The pattern of windows that have begun."""
    phases = {0: True}
    for begin, length, _ in windows:
        phases[begin % period] = True
        phases[(begin + length) % period] = True
    tables = [(begin, length, dict(held.pairs)) for begin, length, held in windows]
    found = []
    for phase in sorted(phases):
        holding = [table for begin, length, table in tables if (phase - begin) % period < length]
        numbers = tuple([sum([one.get(kind, 0) for one in holding]) for kind in kinds])
        if not found or found[-1][1] != numbers:
            found.append((phase, numbers))
    return found
