"""Rooms: amounts of which claims and windows hold some for some ticks."""

from toldstarts.base.amounts import Amounts, check_amounts, is_kind
from toldstarts.base.checks import is_between, is_whole
from toldstarts.base.ticks import MAX_TICK, check_tick, is_tick
from toldstarts.errors import InvalidAmounts, InvalidNumber, InvalidRoom, InvalidTick
from toldstarts.errors import Refused, TooMany, UnknownName
from toldstarts.room.lines import Line, head_of, held_ticks, window_ticks
from toldstarts.room.runs import is_chain, search

MAX_CLAIMS = 200
MAX_WINDOWS = 20
MAX_PERIOD = 10000
MAX_STEPS = 10000


class Room:
    """Amounts with claims, which hold some of them once, and windows, which do so in each period."""

    def __init__(self, amounts, *, period=1):
        check_amounts(amounts)
        if not is_between(period, 1, MAX_PERIOD):
            raise InvalidNumber(period)
        self._amounts = amounts
        self._period = period
        self._claims = ()
        self._windows = ()

    @property
    def amounts(self):
        """What the room has."""
        return self._amounts

    @property
    def period(self):
        """After how many ticks the windows come again."""
        return self._period

    @property
    def head(self):
        """The tick from which on the same is free a period later."""
        return head_of(self._claims, self._windows)

    @property
    def claims(self):
        """The claims, in the order in which they were added."""
        return self._claims

    @property
    def windows(self):
        """The windows, in the order in which they were added."""
        return self._windows

    def with_claim(self, claim):
        """The room with one more claim."""
        _check_claim(claim)
        if len(self._claims) >= MAX_CLAIMS:
            raise TooMany(MAX_CLAIMS)
        made = self._changed(self._claims + (claim,), self._windows)
        begin, end, held = claim
        made._refuse_short(held.kinds, begin, made._horizon(begin) if end is None else end)
        return made

    def with_window(self, window):
        """The room with one more window."""
        self._check_window(window)
        if len(self._windows) >= MAX_WINDOWS:
            raise TooMany(MAX_WINDOWS)
        made = self._changed(self._claims, self._windows + (window,))
        begin, _, held = window
        made._refuse_short(held.kinds, begin, made._horizon(begin))
        return made

    def without_claim(self, claim):
        """The room without the first claim that is equal."""
        _check_claim(claim)
        return self._changed(_without(self._claims, claim), self._windows)

    def without_window(self, window):
        """The room without the first window that is equal."""
        self._check_window(window)
        return self._changed(self._claims, _without(self._windows, window))

    def free(self, tick):
        """The free amounts at a tick."""
        check_tick(tick)
        return self._least(tick, tick + 1)

    def least(self, begin, end):
        """The amounts that are free at all ticks from begin to end - 1."""
        _check_span(begin, end)
        return self._least(begin, end)

    def area_of(self, kind, begin, end):
        """The sum of what is free of a kind at the ticks from begin to end - 1."""
        if not is_kind(kind):
            raise InvalidAmounts("the kind is no name of a kind")
        _check_span(begin, end)
        claimed = sum([held_ticks(begin, end, claim) * claim[2][kind] for claim in self._claims])
        shut = sum([window_ticks(begin, end, row, self._period) * row[2][kind] for row in self._windows])
        return (end - begin) * self._amounts[kind] - claimed - shut

    def steps(self, begin, end):
        """The pairs (tick, free amounts) for begin and for each later tick at which other amounts are free."""
        _check_span(begin, end)
        kinds = self._amounts.kinds
        line = self._line(kinds)
        found, made, before = [], {}, None
        for tick, _, free in line.pieces(begin, end):
            if free != before:
                if len(found) == MAX_STEPS:
                    raise TooMany(MAX_STEPS)
                if free not in made:
                    made[free] = _amounts_of(kinds, free)
                found.append((tick, made[free]))
                before = free
        return tuple(found)

    def fits(self, want, length, start):
        """Whether a run fits at a start."""
        _check_run(want, length)
        if not is_whole(start) or start < 0:
            raise InvalidTick("the start is no integer of at least 0")
        least = self._line(want.kinds).least(start, start + length)
        return all([number <= free for (_, number), free in zip(want.pairs, least)])

    def earliest(self, want, length, since):
        """The earliest start from since on at which a run fits, or None."""
        return self._search(want, length, since)[0]

    def bars(self, want, length, since):
        """A paper for the earliest start, or for None."""
        return self._search(want, length, since)[1]

    def is_bars(self, want, length, since, start, value):
        """Whether the value is a paper for a start, or for None."""
        _check_run(want, length)
        check_tick(since)
        if start is not None and (not is_whole(start) or start < since):
            raise InvalidTick("the start is neither None nor an integer of at least since")
        end = self._horizon(since) if start is None else start
        if not is_chain(value, length, since, end):
            return False
        lines = {}
        for bar in value:
            kind, first, last = bar[2][1:]
            if kind not in want:
                return False
            if kind not in lines:
                lines[kind] = self._line((kind,))
            if not lines[kind].is_short(0, want[kind], first, last + 1):
                return False
        return True

    def __len__(self):
        return len(self._claims)

    def __eq__(self, other):
        return isinstance(other, Room) and self._key() == other._key()

    def __str__(self):
        return f"room with {len(self._claims)} claims, {len(self._windows)} windows"

    def _key(self):
        """What is equal for equal rooms: claims and windows may have any order."""
        # No claim ends at 0: there it stands for no end.
        claims = sorted([(begin, end or 0, held.pairs) for begin, end, held in self._claims])
        windows = sorted([(begin, length, held.pairs) for begin, length, held in self._windows])
        return (self._amounts.pairs, self._period, claims, windows)

    def _changed(self, claims, windows):
        """The room with other claims and windows."""
        made = Room(self._amounts, period=self._period)
        made._claims = claims
        made._windows = windows
        return made

    def _check_window(self, value):
        """Refuse what is no window of this room."""
        if not isinstance(value, tuple) or len(value) != 3:
            raise InvalidRoom("a window is a triple")
        begin, length, held = value
        if not is_tick(begin) or not is_between(length, 1, self._period) or not _are_held(held):
            raise InvalidRoom("a window is a tick, a length up to the period, and amounts")

    def _refuse_short(self, kinds, begin, end):
        """Refuse this room if more of some kinds is held than there is, somewhere from begin up to end."""
        line = self._line(kinds)
        for tick, _, free in line.sights(begin, end):
            for kind, number in zip(kinds, free):
                if number < 0:
                    raise Refused(("short", kind, tick))

    def _line(self, kinds):
        """What is free of some kinds at each tick."""
        return Line(self._amounts, self._claims, self._windows, self._period, kinds)

    def _least(self, begin, end):
        """The least of each kind that is free from begin up to end."""
        kinds = self._amounts.kinds
        return _amounts_of(kinds, self._line(kinds).least(begin, end))

    def _horizon(self, since):
        """The tick ahead of which a run fits if it fits anywhere from since on."""
        return max(since, self.head) + self._period

    def _search(self, want, length, since):
        """The earliest start or None, and a paper for it."""
        _check_run(want, length)
        check_tick(since)
        # All kinds of the room are in the line, as a step of any kind counts.
        line = self._line(tuple(sorted(set(self._amounts.kinds + want.kinds))))
        return search(line, want, length, since, self._horizon(since), MAX_STEPS)


def _amounts_of(kinds, numbers):
    """The amounts with some numbers of some kinds, 0 among them."""
    return Amounts(tuple([(kind, number) for kind, number in zip(kinds, numbers) if number > 0]))


def _without(rows, row):
    """The rows without the first one that is equal."""
    for at, one in enumerate(rows):
        if one == row:
            return rows[:at] + rows[at + 1:]
    raise UnknownName(row)


def _are_held(value):
    """Whether the value is amounts that a claim or a window can hold."""
    return isinstance(value, Amounts) and len(value) > 0


def _check_claim(value):
    """Refuse what is no claim."""
    if not isinstance(value, tuple) or len(value) != 3:
        raise InvalidRoom("a claim is a triple")
    begin, end, held = value
    if not is_tick(begin) or not _are_held(held):
        raise InvalidRoom("a claim begins at a tick and holds amounts")
    if end is not None and not (is_tick(end) and begin < end):
        raise InvalidRoom("a claim ends at a later tick, or never")


def _check_span(begin, end):
    """Refuse what is no tick and a greater one."""
    if not is_tick(begin) or not is_tick(end) or not begin < end:
        raise InvalidTick("the values are no tick and a greater one")


def _check_run(want, length):
    """Refuse what are no amounts and no length of a run."""
    check_amounts(want)
    if not is_between(length, 1, MAX_TICK):
        raise InvalidNumber(length)
