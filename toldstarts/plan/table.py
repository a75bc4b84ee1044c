"""What a board is made of: runs and told jobs in a ground, and how it settles.

What comes in here is surely right. A job is told by its key, its bid and its length.
"""

from toldstarts.base.checks import without_key
from toldstarts.errors import Refused, TooMany
from toldstarts.plan.asks import members_of
from toldstarts.plan.bars import bars_from
from toldstarts.plan.ground import are_surely_few, check_looked
from toldstarts.plan.search import earliest_at_all, first_place, place_at

MOST_STAYS = 200
MOST_SPANS = 200
MOST_MOVES = 1000


class Table:
    """The runs and the told jobs at a tick. The dicts and the list in it never change."""

    def __init__(self, ground, most_told, is_filling):
        self.ground = ground
        self.clock = 0
        self.most_told = most_told
        self.is_filling = is_filling
        self.running = {}
        self.told_keys = []
        # For each key the bid and the length.
        self.bids = {}
        # For each failed machine the begin of its shut span, and whether the span is there for the failure alone.
        self.failures = {}
        self.is_drawn = True
        # Whether nobody can come earlier: then only what gives something free is a reason to look again.
        self.is_tight = True

    def copied(self):
        """The same table, which goes on by itself."""
        made = Table(self.ground, self.most_told, self.is_filling)
        made.clock = self.clock
        made.running = self.running
        made.told_keys = self.told_keys
        made.bids = self.bids
        made.failures = self.failures
        made.is_drawn = self.is_drawn
        made.is_tight = self.is_tight
        return made

    def start_of(self, key):
        """The start of the place of a job."""
        return self.ground.stays[key][0][0]

    def starts_told(self):
        """The starts of the told jobs, in told order."""
        return {key: self.start_of(key) for key in self.told_keys}

    def next_change(self):
        """The present tick if a told job starts there, else the next one at which a run ends or a told job starts."""
        ticks = [self.start_of(key) for key in self.told_keys]
        for key in self.running:
            end = self.ground.end_of(key)
            if end > self.clock:
                ticks.append(end)
        return min(ticks, default=None)

    def settle(self, now, waiting):
        """Go to a tick and settle there, with the jobs that wait; tell the events."""
        events, left = [], list(waiting)
        self.clock = now
        for key in sorted([one for one in self.running if self.ground.end_of(one) <= now]):
            self._take_out(key)
            events.append(("ended", key))
        self._draw(events)
        self._tell(left, events)
        while self._begin_due(events):
            self._tell(left, events)
        if self.is_filling:
            self._begin_at_once(left, events)
        return tuple(events)

    def end_early(self, key):
        """Take out a run, or a told job."""
        self._take_out(key)
        self.is_tight = False

    def shut(self, machine, begin, end):
        """Shut a machine that no run has in these ticks; tell the told jobs that are put off."""
        broken = self.ground.keys_meeting(machine, begin, end)
        return self._break([key for key in self.told_keys if key in broken], (machine, begin, end))

    def lift(self, machine, begin, end):
        """Take a shut span away."""
        self.ground = self.ground.without_span(machine, begin, end)
        self.is_tight = False

    def fail(self, machine):
        """Let a machine fail: tell the runs that it had, and the told jobs that are put off."""
        span = (machine, self.clock, None)
        gone = [key for key in self.ground.keys_with(machine) if key in self.running]
        for key in gone:
            self._take_out(key)
        is_own = span not in self.ground.span_rows
        self.failures = {**self.failures, machine: (self.clock, is_own)}
        broken = [key for key in self.told_keys if machine in members_of(self.ground.stays[key][0][2])]
        return tuple(gone), self._break(broken, span if is_own else None)

    def is_of_failure(self, span):
        """Whether a failure has a shut span."""
        machine, begin, end = span
        return end is None and machine in self.failures and self.failures[machine][0] == begin

    def mend(self, machine):
        """Open a machine that has failed."""
        begin, is_own = self.failures[machine]
        self.failures = without_key(self.failures, machine)
        if is_own:
            self.lift(machine, begin, None)

    def raise_up(self, key, bid, length):
        """Tell a job ahead of all others; tell the told jobs that are put off."""
        others = [other for other in self.told_keys if other != key]
        starts = self.starts_told()
        for other in list(self.told_keys):
            self.ground = self.ground.without_stay(other)
        place = self._earliest(bid, length)
        if place is None:
            raise Refused(("never", key))
        self._put(key, place, bid, length)
        self.told_keys = [key] + others
        return self._tell_anew(others, starts)

    def begin(self, key, bid, length):
        """Let a job, told or not, begin now; tell its place."""
        if key in self.told_keys:
            self.end_early(key)
        place = self._earliest(bid, length)
        if place is None or place[0] > self.clock:
            raise Refused(("later", None if place is None else place[0]))
        self._run(key, place, bid, length)
        return place

    def more(self, amounts):
        """Let the house have so much more."""
        self.ground = self.ground.with_stock(amounts)
        self.is_tight = False

    def earlier(self, key):
        """The earliest place to which a told job can come, or None."""
        return self._earlier_place(key, self.ground.without_stay(key))

    def bars(self, key):
        """Bars that show the start of a told job, or None if it can come earlier."""
        _, length, asked, _ = self.ground.stays[key]
        ground = self.ground.without_stay(key)
        check_looked(ground, self.clock)
        rows = bars_from(ground, asked, length, self.clock)
        start = rows[-1][1] if rows else self.clock
        return rows if start == self.start_of(key) else None

    def _draw(self, events):
        """Draw the told jobs together."""
        if not self.is_tight:
            self.is_drawn = self.is_tight = self._draw_up_to(MOST_MOVES, events)
        elif not are_surely_few(self.ground, self.clock):
            # Nobody moves, but all are looked at.
            for key in self.told_keys:
                check_looked(self.ground.without_stay(key), self.clock)

    def _draw_up_to(self, most, events):
        """Draw together with fewer moves than the most, and tell whether they were enough."""
        many, many_ahead = 0, -1
        while many_ahead < many:
            many_ahead = many
            for key in list(self.told_keys):
                ground = self.ground.without_stay(key)
                place = self._earlier_place(key, ground)
                if place is not None:
                    events.append(("drawn", key, self.start_of(key), place[0]))
                    self.ground = ground
                    self._move(key, place)
                    many = many + 1
                if many == most:
                    return False
        return True

    def _earlier_place(self, key, ground):
        """The earliest place of a told job ahead of its start, in a ground without its own place, or None."""
        check_looked(ground, self.clock)
        bid, length = self.bids[key]
        return first_place(ground, bid, length, self.clock, self.start_of(key))

    def _tell(self, left, events):
        """Tell jobs their starts as long as there is depth; those that were told, or never start, leave the row."""
        while len(self.told_keys) < self.most_told and left:
            key, bid, length = left.pop(0)
            place = self._earliest(bid, length)
            if place is None:
                events.append(("never", key))
            else:
                self._put(key, place, bid, length)
                self.told_keys = self.told_keys + [key]
                events.append(("told", key, place[0]))

    def _begin_due(self, events):
        """Let the told jobs begin that start now, and tell whether there was one."""
        due = [key for key in self.told_keys if self.start_of(key) == self.clock]
        for key in due:
            self.running = {**self.running, key: True}
            events.append(("began", key, self.ground.stays[key][0]))
        if due:
            self.told_keys = [key for key in self.told_keys if key not in due]
        return len(due) > 0

    def _begin_at_once(self, left, events):
        """Let those of the row begin that can do so at once."""
        for key, bid, length in left:
            check_looked(self.ground, self.clock)
            place = place_at(self.ground, bid, length, self.clock)
            if place is not None:
                self._run(key, place, bid, length)
                events.append(("began", key, place))

    def _break(self, keys, span):
        """Shut a machine in a span, if there is one, and tell some told jobs anew; tell those that are put off."""
        starts = {key: self.start_of(key) for key in keys}
        for key in keys:
            self.ground = self.ground.without_stay(key)
        if span is not None:
            if len(self.ground.span_rows) >= MOST_SPANS:
                raise TooMany(MOST_SPANS)
            self.ground = self.ground.with_span(span[0], span[1], span[2])
        self.is_tight = False
        return self._tell_anew(keys, starts)

    def _tell_anew(self, keys, starts):
        """Give places to told jobs that have lost theirs; tell those whose start is greater now, or None."""
        put_off = []
        for key in keys:
            bid, length = self.bids[key]
            place = self._earliest(bid, length)
            if place is None:
                self.told_keys = [one for one in self.told_keys if one != key]
                self.bids = without_key(self.bids, key)
            else:
                self._move(key, place)
            if place is None or place[0] > starts[key]:
                put_off.append((key, None if place is None else place[0]))
        return tuple(put_off)

    def _earliest(self, bid, length):
        """The earliest place from now on, or None."""
        check_looked(self.ground, self.clock)
        return earliest_at_all(self.ground, bid, length, self.clock)

    def _run(self, key, place, bid, length):
        """Let a job run at a place."""
        self._put(key, place, bid, length)
        self.running = {**self.running, key: True}

    def _put(self, key, place, bid, length):
        """Put in a job at a place."""
        self.bids = {**self.bids, key: (bid, length)}
        self._move(key, place)

    def _move(self, key, place):
        """Put in the place of a job that has a bid."""
        if len(self.ground.stays) >= MOST_STAYS:
            raise TooMany(MOST_STAYS)
        bid, length = self.bids[key]
        held = bid.held_by(place, self.ground.house_shifts)
        self.ground = self.ground.with_stay(key, place, length, bid.asked, held)

    def _take_out(self, key):
        """Take out a run, or a told job."""
        self.ground = self.ground.without_stay(key)
        if key in self.running:
            self.running = without_key(self.running, key)
        else:
            self.told_keys = [one for one in self.told_keys if one != key]
        self.bids = without_key(self.bids, key)
