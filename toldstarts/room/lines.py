"""What is free in a room at each tick, from 0 on for ever.

Numbers are packed here, as in the fields of a room. What no claim holds, the base, is told by two lists:
the ascending ticks from which on it is another one, and the bases. What windows hold is told likewise, by
the ticks at which windows begin for good, and the patterns from there on. A cut is a tuple (first, stop,
base, pattern): both are the same from first up to stop.
"""

from toldstarts.base.checks import place_of
from toldstarts.base.steps import lowered_steps, split_steps
from toldstarts.room.fields import EVEN, KindFields, number_at
from toldstarts.room.patterns import Pattern


class Line:
    """What is free at each tick."""

    def __init__(self, fields, ticks, bases, begins, patterns):
        self.fields = fields
        self.ticks = ticks
        self.bases = bases
        self.begins = begins
        self.patterns = patterns

    def with_held(self, begin, end, held):
        """The line if from one tick up to another, or for ever, more is held, or less if it is below 0."""
        ticks, bases = lowered_steps(self.ticks, self.bases, begin, end, held)
        return Line(self.fields, ticks, bases, self.begins, self.patterns)

    def with_window(self, begin, length, held):
        """The line with one window more, or with one less if the packed amounts are below 0."""
        begins, patterns = list(self.begins), list(self.patterns)
        at = split_steps(begins, patterns, begin)
        patterns[at:] = [pattern.with_window(begin, length, held) for pattern in patterns[at:]]
        if at > 0 and patterns[at].changes == patterns[at - 1].changes and patterns[at].holds == patterns[at - 1].holds:
            del begins[at]
            del patterns[at]
        return Line(self.fields, self.ticks, self.bases, begins, patterns)

    def cuts(self, begin, end):
        """All cuts from one tick up to another."""
        at, turn = place_of(self.ticks, begin), place_of(self.begins, begin)
        ends, turn_ends = self.ticks[at + 1:] + [end], self.begins[turn + 1:] + [end]
        found, first, more, more_turns = [], begin, 0, 0
        while first < end:
            stop = min(ends[more], turn_ends[more_turns], end)
            found.append((first, stop, self.bases[at + more], self.patterns[turn + more_turns]))
            if ends[more] == stop:
                more = more + 1
            if turn_ends[more_turns] == stop:
                more_turns = more_turns + 1
            first = stop
        return found

    def first_short(self, tops, begin, end):
        """The first tick from one up to another at which a number with some tops is below 0, and its least kind."""
        for turn in range(place_of(self.begins, begin), len(self.begins)):
            low, high = max(begin, self.begins[turn]), end
            if turn + 1 < len(self.begins):
                high = min(end, self.begins[turn + 1])
            found = self._short_beside(self.patterns[turn], tops, low, high) if low < high else None
            if found is not None:
                return found
        return None

    def _short_beside(self, pattern, tops, begin, end):
        """What `first_short` tells, where one pattern holds all the time."""
        places = range(place_of(self.ticks, begin), place_of(self.ticks, end - 1) + 1)
        # Most parts have enough even beside the most that windows hold.
        for at in [place for place in places if (self.bases[place] - pattern.most_held) & tops != tops]:
            stop = end if at + 1 == len(self.ticks) else min(end, self.ticks[at + 1])
            for first, _, free in pattern.pieces(max(begin, self.ticks[at]), stop, self.bases[at]):
                if free & tops != tops:
                    return (first, self.fields.least_short(free, tops))
        return None

    def first_lacks(self, wanted, tops, begin, end):
        """For each kind with one of some tops the first tick from one up to another at which less is free."""
        found, left = {}, tops
        for first, stop, base, pattern in self.cuts(begin, end):
            rest = base - wanted
            if (rest - pattern.most_held) & left != left:
                for low, _, free in pattern.pieces(first, stop, rest):
                    while free & left != left:
                        kind = self.fields.least_short(free, left)
                        found[kind] = low
                        left = left - (EVEN << self.fields.shifts[kind])
        return found

    def least(self, begin, end):
        """The least numbers that are free from one tick up to another, without EVEN added."""
        found = None
        for first, stop, base, pattern in self.cuts(begin, end):
            frees = [base - pattern.most_held]
            if stop - first < pattern.cycle:
                frees = [free for _, _, free in pattern.pieces(first, stop, base)]
            for free in frees:
                numbers = free - self.fields.all_tops
                found = numbers if found is None else self.fields.lesser(found, numbers)
        return found

    def covers(self, wanted, tops, begin, end):
        """Whether packed numbers with some tops are free at each tick from one up to another."""
        for first, stop, base, pattern in self.cuts(begin, end):
            rest = base - wanted
            if (rest - pattern.most_held) & tops != tops:
                if any([free & tops != tops for _, _, free in pattern.pieces(first, stop, rest)]):
                    return False
        return True

    def is_short(self, kind, number, begin, end):
        """Whether at each tick from one up to another less than a number of a kind is free."""
        if kind not in self.fields.shifts:
            return True
        shift = self.fields.shifts[kind]
        for first, stop, base, pattern in self.cuts(begin, end):
            if number_at(base - pattern.least_held, shift) >= number:
                if any([number_at(free, shift) >= number for _, _, free in pattern.pieces(first, stop, base)]):
                    return False
        return True

    def count_steps(self, begin, end):
        """How many steps there are from one tick up to another."""
        many, before = 0, None
        for first, stop, base, pattern in self.cuts(begin, end):
            if base - pattern.held_at(first) != before:
                many = many + 1
            many = many + pattern.changes_up_to(stop - 1) - pattern.changes_up_to(first)
            before = base - pattern.held_at(stop - 1)
        return many

    def steps(self, begin, end):
        """The pairs (tick, free amounts) of the steps from one tick up to another."""
        found, made, before = [], {}, None
        for first, stop, base, pattern in self.cuts(begin, end):
            for low, _, free in pattern.pieces(first, stop, base):
                if free != before:
                    found.append((low, self._made_amounts(free, made)))
                before = free
            if stop - first > pattern.cycle:
                found.extend(self._later_steps(pattern, base, first + pattern.cycle, stop, made))
                before = base - pattern.held_at(stop - 1)
        return tuple(found)

    def _later_steps(self, pattern, base, first, stop, made):
        """The steps of a cut from a tick up to its end, if it has begun a period or more ahead of this tick."""
        turn = first - first % pattern.cycle
        turns = range(turn, stop, pattern.cycle)
        many = len(pattern.changes)
        rows = [None] * (len(turns) * many)
        for at, (phase, hold) in enumerate(pattern.changes):
            some = self._made_amounts(base - hold, made)
            rows[at::many] = [(later + phase, some) for later in turns]
        ahead = len([phase for phase, _ in pattern.changes if turn + phase < first])
        return rows[ahead:ahead + pattern.changes_up_to(stop - 1) - pattern.changes_up_to(first - 1)]

    def _made_amounts(self, free, made):
        """The amounts of packed numbers, of which a dict has those that were made ahead."""
        if free not in made:
            made[free] = self.fields.amounts_of(free)
        return made[free]


def new_line(amounts, cycle):
    """The line of a room without claims and windows."""
    fields = KindFields(amounts.kinds)
    base = fields.packed(amounts) + fields.all_tops
    return Line(fields, [0], [base], [0], [Pattern(fields, cycle, [0], [0])])


def head_of(claims, windows):
    """The tick from which on the same is free a period later."""
    ends = [begin if end is None else end for begin, end, _ in claims]
    return max([0] + ends + [window[0] for window in windows])


def held_ticks(begin, end, claim):
    """At how many ticks from begin up to end a claim holds."""
    low, high, _ = claim
    last = end if high is None else min(end, high)
    return max(0, last - max(begin, low))


def window_ticks(begin, end, window, period):
    """At how many ticks from begin up to end a window holds."""
    return _window_ticks_ahead(end, window, period) - _window_ticks_ahead(begin, window, period)


def _window_ticks_ahead(tick, window, period):
    """At how many ticks ahead of a tick a window holds."""
    begin, length, _ = window
    periods, rest = divmod(max(0, tick - begin), period)
    return periods * length + min(rest, length)
