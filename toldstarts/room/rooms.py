"""Rooms: amounts of which claims and windows hold some for some ticks."""

from toldstarts.base.amounts import Amounts, check_amounts, is_kind
from toldstarts.base.checks import is_between, is_whole
from toldstarts.base.ticks import MAX_TICK, check_tick, is_tick
from toldstarts.errors import InvalidAmounts, InvalidNumber, InvalidRoom, InvalidTick
from toldstarts.errors import Refused, TooMany, UnknownName
from toldstarts.room.lines import head_of, held_ticks, new_line, window_ticks
from toldstarts.room.runs import bars_to, first_start, is_chain

MAX_CLAIMS = 200
MAX_WINDOWS = 20
MAX_PERIOD = 10000
MAX_STEPS = 10000


class Room:
    """Amounts with claims, which hold some of them once, and windows, which do so in each period."""

    def __init__(self, amounts, *, period=1):
        check_amounts(amounts)
        if not is_between(period, 1, MAX_PERIOD):
            raise InvalidNumber(period)
        self._amounts = amounts
        self._period = period
        self._claims = ()
        self._windows = ()
        self._head = 0
        self._known_line = None

    @property
    def amounts(self):
        """What the room has."""
        return self._amounts

    @property
    def period(self):
        """After how many ticks the windows come again."""
        return self._period

    @property
    def head(self):
        """The tick from which on the same is free a period later."""
        return self._head

    @property
    def claims(self):
        """The claims, in the order in which they were added."""
        return self._claims

    @property
    def windows(self):
        """The windows, in the order in which they were added."""
        return self._windows

    def with_claim(self, claim):
        """The room with one more claim."""
        _check_claim(claim)
        if len(self._claims) >= MAX_CLAIMS:
            raise TooMany(MAX_CLAIMS)
        begin, end, held = claim
        line = self._line()
        head = max(self._head, begin if end is None else end)
        line = line.with_held(begin, end, line.fields.packed(held))
        self._refuse_short(line, held, begin, max(begin, head) + self._period if end is None else end)
        return self._changed(self._claims + (claim,), self._windows, head, line)

    def with_window(self, window):
        """The room with one more window."""
        self._check_window(window)
        if len(self._windows) >= MAX_WINDOWS:
            raise TooMany(MAX_WINDOWS)
        begin, length, held = window
        line = self._line()
        head = max(self._head, begin)
        line = line.with_window(begin, length, line.fields.packed(held))
        self._refuse_short(line, held, begin, head + self._period)
        return self._changed(self._claims, self._windows + (window,), head, line)

    def without_claim(self, claim):
        """The room without the first claim that is equal."""
        _check_claim(claim)
        claims = _without(self._claims, claim)
        begin, end, held = claim
        line = self._line()
        line = line.with_held(begin, end, -line.fields.packed(held))
        return self._changed(claims, self._windows, head_of(claims, self._windows), line)

    def without_window(self, window):
        """The room without the first window that is equal."""
        self._check_window(window)
        windows = _without(self._windows, window)
        begin, length, held = window
        line = self._line()
        line = line.with_window(begin, length, -line.fields.packed(held))
        return self._changed(self._claims, windows, head_of(self._claims, windows), line)

    def free(self, tick):
        """The free amounts at a tick."""
        check_tick(tick)
        return self._least(tick, tick + 1)

    def least(self, begin, end):
        """The amounts that are free at all ticks from begin to end - 1."""
        _check_span(begin, end)
        return self._least(begin, end)

    def area_of(self, kind, begin, end):
        """The sum of what is free of a kind at the ticks from begin to end - 1."""
        if not is_kind(kind):
            raise InvalidAmounts("the kind is no name of a kind")
        _check_span(begin, end)
        claimed = sum([held_ticks(begin, end, claim) * claim[2][kind] for claim in self._claims])
        shut = sum([window_ticks(begin, end, row, self._period) * row[2][kind] for row in self._windows])
        return (end - begin) * self._amounts[kind] - claimed - shut

    def steps(self, begin, end):
        """The pairs (tick, free amounts) for begin and for each later tick at which other amounts are free."""
        _check_span(begin, end)
        line = self._line()
        if line.count_steps(begin, end) > MAX_STEPS:
            raise TooMany(MAX_STEPS)
        return line.steps(begin, end)

    def fits(self, want, length, start):
        """Whether a run fits at a start."""
        _check_run(want, length)
        if not is_whole(start) or start < 0:
            raise InvalidTick("the start is no integer of at least 0")
        line = self._line()
        if self._foreign_kinds(want):
            return False
        return line.covers(line.fields.packed(want), line.fields.tops_of(want), start, start + length)

    def earliest(self, want, length, since):
        """The earliest start from since on at which a run fits, or None."""
        _check_run(want, length)
        check_tick(since)
        line, horizon, start = self._line(), self._horizon(since), None
        if not self._foreign_kinds(want):
            wanted, tops = line.fields.packed(want), line.fields.tops_of(want)
            start = first_start(line, wanted, tops, length, since, horizon)
        if line.count_steps(since, (horizon if start is None else start) + length) > MAX_STEPS:
            raise TooMany(MAX_STEPS)
        return start

    def bars(self, want, length, since):
        """A paper for the earliest start, or for None."""
        start = self.earliest(want, length, since)
        line, horizon, foreign = self._line(), self._horizon(since), self._foreign_kinds(want)
        if foreign:
            return ((since, horizon, ("short", foreign[0], since, horizon - 1)),)
        end = horizon + length if start is None else start
        return bars_to(line, line.fields.packed(want), line.fields.tops_of(want), since, end, horizon)

    def is_bars(self, want, length, since, start, value):
        """Whether the value is a paper for a start, or for None."""
        _check_run(want, length)
        check_tick(since)
        if start is not None and (not is_whole(start) or start < since):
            raise InvalidTick("the start is neither None nor an integer of at least since")
        if not is_chain(value, length, since, self._horizon(since) if start is None else start):
            return False
        line, numbers = self._line(), dict(want.pairs)
        for _, _, (_, kind, first, last) in value:
            # A kind of a wrong form, such as a list, is no key of a dict.
            if not isinstance(kind, str) or kind not in numbers:
                return False
            if not line.is_short(kind, numbers[kind], first, last + 1):
                return False
        return True

    def __len__(self):
        return len(self._claims)

    def __eq__(self, other):
        return isinstance(other, Room) and self._key() == other._key()

    def __str__(self):
        return f"room with {len(self._claims)} claims, {len(self._windows)} windows"

    def _key(self):
        """What is equal for equal rooms: claims and windows may have any order."""
        # No claim ends at 0: there it stands for no end.
        claims = sorted([(begin, end or 0, held.pairs) for begin, end, held in self._claims])
        windows = sorted([(begin, length, held.pairs) for begin, length, held in self._windows])
        return (self._amounts.pairs, self._period, claims, windows)

    def _changed(self, claims, windows, head, line):
        """The room with other claims or windows, and with the head and the line that follow from them."""
        made = Room(self._amounts, period=self._period)
        made._claims = claims
        made._windows = windows
        made._head = head
        made._known_line = line
        return made

    def _line(self):
        """What is free at each tick."""
        if self._known_line is None:
            self._known_line = new_line(self._amounts, self._period)
        return self._known_line

    def _check_window(self, value):
        """Refuse what is no window of this room."""
        if not isinstance(value, tuple) or len(value) != 3:
            raise InvalidRoom("a window is a triple")
        begin, length, held = value
        if not is_tick(begin) or not is_between(length, 1, self._period) or not _are_held(held):
            raise InvalidRoom("a window is a tick, a length up to the period, and amounts")

    def _refuse_short(self, line, held, begin, end):
        """Refuse a line with something more that is held, if it is more than there is, from a begin up to an end."""
        shorts = [(begin, kind) for kind in self._foreign_kinds(held)[:1]]
        found = line.first_short(line.fields.tops_of(held), begin, end)
        if found is not None:
            shorts.append(found)
        if shorts:
            tick, kind = min(shorts)
            raise Refused(("short", kind, tick))

    def _foreign_kinds(self, amounts):
        """The kinds of amounts that the room does not have."""
        return [kind for kind in amounts.kinds if kind not in self._amounts]

    def _least(self, begin, end):
        """The least of each kind that is free from begin up to end."""
        line = self._line()
        return line.fields.amounts_of(line.least(begin, end))

    def _horizon(self, since):
        """The tick ahead of which a run fits if it fits anywhere from since on."""
        return max(since, self._head) + self._period


def check_room(value):
    """Refuse what is no room."""
    if not isinstance(value, Room):
        raise InvalidRoom("the value is no object of Room")


def first_lacks(room, want, begin, end):
    """For each kind of which less is free than is wanted the first tick from one up to another at which this is so."""
    line = room._line()
    found = line.first_lacks(line.fields.packed(want), line.fields.tops_of(want), begin, end)
    for kind in room._foreign_kinds(want):
        found[kind] = begin
    return found


def _without(rows, row):
    """The rows without the first one that is equal."""
    for at, one in enumerate(rows):
        if one == row:
            return rows[:at] + rows[at + 1:]
    raise UnknownName(row)


def _are_held(value):
    """Whether the value is amounts that a claim or a window can hold."""
    return isinstance(value, Amounts) and len(value) > 0


def _check_claim(value):
    """Refuse what is no claim."""
    if not isinstance(value, tuple) or len(value) != 3:
        raise InvalidRoom("a claim is a triple")
    begin, end, held = value
    if not is_tick(begin) or not _are_held(held):
        raise InvalidRoom("a claim begins at a tick and holds amounts")
    if end is not None and not (is_tick(end) and begin < end):
        raise InvalidRoom("a claim ends at a later tick, or never")


def _check_span(begin, end):
    """Refuse what is no tick and a greater one."""
    if not is_tick(begin) or not is_tick(end) or not begin < end:
        raise InvalidTick("the values are no tick and a greater one")


def _check_run(want, length):
    """Refuse what are no amounts and no length of a run."""
    check_amounts(want)
    if not is_between(length, 1, MAX_TICK):
        raise InvalidNumber(length)
