"""Boards, which tell jobs their starts and keep them."""

from toldstarts.base.amounts import check_amounts
from toldstarts.base.checks import is_between
from toldstarts.base.ticks import MAX_TICK, is_tick
from toldstarts.errors import InvalidHouse, InvalidJob, InvalidNumber, InvalidTick, Refused, UnknownName
from toldstarts.plan.asks import Bid, is_ask, is_key, is_length
from toldstarts.plan.places import check_span, check_yard, ground_of, is_row_of, yard_of
from toldstarts.plan.table import Table

MAX_DEPTH = 20
MAX_MOVES = 1000


class Board:
    """A yard at work: runs, and waiting jobs that have been told their starts."""

    def __init__(self, yard, *, depth=5, fill=False):
        _check_new(yard)
        check_depth(depth)
        check_fill(fill)
        self._first_yard = yard
        self._table = Table(ground_of(yard), depth, fill)

    @property
    def yard(self):
        """The yard with the places of all runs and told jobs."""
        return yard_of(self._table.ground)

    @property
    def now(self):
        """The present tick."""
        return self._table.clock

    @property
    def depth(self):
        """How many jobs are told at most."""
        return self._table.most_told

    @property
    def fill(self):
        """Whether jobs that can begin at once do so."""
        return self._table.is_filling

    @property
    def runs(self):
        """The keys of the runs, ascending."""
        return tuple(sorted(self._table.running))

    @property
    def told(self):
        """The keys of the told jobs, in told order."""
        return tuple(self._table.told_keys)

    @property
    def starts(self):
        """The dict from the keys of the told jobs to their starts."""
        return {key: self._table.start_of(key) for key in sorted(self._table.told_keys)}

    @property
    def is_settled(self):
        """Whether the last drawing together ended within its moves."""
        return self._table.is_drawn

    @property
    def next_tick(self):
        """The next tick at which a run ends or a told job starts, or None."""
        return self._table.next_change()

    def settle(self, now, waiting):
        """Go to a tick and settle there; tell the events."""
        table = self._table
        last = table.next_change()
        if not is_tick(now) or now < table.clock or (last is not None and now > last):
            raise InvalidTick("the value is no tick to which the board can go")
        _check_waiting(waiting)
        if any([key in self for key, _, _ in waiting]):
            raise InvalidJob("a job that waits is on the board")
        made = table.copied()
        events = made.settle(now, _bids_of(made.ground, waiting))
        self._table = made
        return events

    def end(self, key):
        """End a run at the present tick."""
        if not is_key(key) or key not in self._table.running:
            raise UnknownName(key)
        self._take_out(key)

    def leave(self, key):
        """Take out a told job."""
        self._check_told(key)
        self._take_out(key)

    def shut(self, machine, begin, end):
        """Shut a machine from a tick up to an end, or for ever; tell the jobs that are put off."""
        self._check_machine(machine)
        check_span(begin, end)
        if begin < self.now:
            raise InvalidTick("the begin is ahead of the present tick")
        ground, running = self._table.ground, self._table.running
        runs = [key for key in ground.keys_meeting(machine, begin, end) if key in running]
        if runs:
            raise Refused(("runs", tuple(runs)))
        if (machine, begin, end) in ground.span_rows:
            raise Refused(("twice",))
        made = self._table.copied()
        put_off = made.shut(machine, begin, end)
        self._table = made
        return put_off

    def lift(self, machine, begin, end):
        """Take a shut span away, but for that of a failure."""
        span, table = (machine, begin, end), self._table
        if not is_row_of(table.ground.span_rows, span) or table.is_of_failure(span):
            raise UnknownName(span)
        made = table.copied()
        made.lift(machine, begin, end)
        self._table = made

    def fail(self, machine):
        """Let a machine fail; tell the keys of the runs that it had, and the jobs that are put off."""
        self._check_machine(machine)
        if machine in self._table.failures:
            raise Refused(("twice",))
        made = self._table.copied()
        found = made.fail(machine)
        self._table = made
        return found

    def mend(self, machine):
        """Open a machine again that has failed."""
        if not is_between(machine, 0, len(self._first_yard.machines) - 1) or machine not in self._table.failures:
            raise UnknownName(machine)
        made = self._table.copied()
        made.mend(machine)
        self._table = made

    def raised(self, key, ask, length):
        """Tell a job ahead of all others; tell the jobs that are put off."""
        self._check_job(key, ask, length)
        table = self._table
        if key not in table.told_keys and len(table.told_keys) >= table.most_told:
            raise Refused(("depth",))
        made = table.copied()
        put_off = made.raise_up(key, self._bid(ask), length)
        self._table = made
        return put_off

    def begin(self, key, ask, length):
        """Let a job begin at the present tick; tell its place."""
        self._check_job(key, ask, length)
        made = self._table.copied()
        place = made.begin(key, self._bid(ask), length)
        self._table = made
        return place

    def earlier(self, key):
        """The earliest place to which a told job can come, or None."""
        self._check_told(key)
        return self._table.earlier(key)

    def bars(self, key):
        """Bars that show the start of a told job, or None if it can come earlier."""
        self._check_told(key)
        return self._table.bars(key)

    def more(self, amounts):
        """Let the house have so much more."""
        check_amounts(amounts)
        made = self._table.copied()
        made.more(amounts)
        self._table = made

    def twin(self):
        """An equal board that goes on by itself."""
        made = Board(self._first_yard)
        made._table = self._table.copied()
        return made

    def __contains__(self, x):
        return is_key(x) and x in self._table.ground.stays

    def __len__(self):
        return len(self._table.ground.stays)

    def __eq__(self, other):
        return isinstance(other, Board) and self._key() == other._key()

    def __str__(self):
        table = self._table
        return f"board at {table.clock}, {len(table.running)} runs, {len(table.told_keys)} told"

    def _key(self):
        """What is equal for equal boards."""
        return (self.yard, self.now, self.depth, self.fill, self.told, self.runs)

    def _take_out(self, key):
        """Take out a run, or a told job."""
        made = self._table.copied()
        made.end_early(key)
        self._table = made

    def _bid(self, ask):
        """The bid of an ask."""
        return Bid(self._table.ground.layout, self._table.ground.house_shifts, ask)

    def _check_machine(self, machine):
        """Refuse what is no index of a machine."""
        if not is_between(machine, 0, len(self._first_yard.machines) - 1):
            raise InvalidNumber(machine)

    def _check_told(self, key):
        """Refuse what is no key of a told job."""
        if not is_key(key) or key not in self._table.told_keys:
            raise UnknownName(key)

    def _check_job(self, key, ask, length):
        """Refuse what is no job that waits; a told one keeps its ask and its length."""
        if not is_key(key):
            raise InvalidNumber(key)
        told = self._table.ground.stays[key] if key in self._table.told_keys else (None, length, ask, None)
        if not is_ask(ask) or ask != told[2]:
            raise InvalidJob("the value is no ask, or not that of the told job")
        if not is_length(length) or length != told[1]:
            raise InvalidNumber(length)
        if key in self._table.running:
            raise Refused(("runs", (key,)))


def starts_of(yard, waiting, *, depth=5, fill=False):
    """The dict from keys to starts, or None, if all jobs of a row wait at tick 0 and no run ends early."""
    _check_new(yard)
    _check_waiting(waiting)
    check_depth(depth)
    check_fill(fill)
    table = Table(ground_of(yard), depth, fill)
    left = _bids_of(table.ground, waiting)
    starts = {key: None for key in sorted([row[0] for row in waiting])}
    tick = 0
    while left and tick is not None:
        if tick > MAX_TICK:
            raise InvalidTick("some jobs are not told up to the last tick")
        gone = {}
        for event in table.settle(tick, left):
            if event[0] == "began":
                starts[event[1]] = event[2][0]
            if event[0] in ("told", "never", "began"):
                gone[event[1]] = True
        left = [row for row in left if row[0] not in gone]
        tick = table.next_change()
    for key, start in table.starts_told().items():
        starts[key] = start
    return starts


def check_depth(value):
    """Refuse what is no depth of a board."""
    if not is_between(value, 1, MAX_DEPTH):
        raise InvalidNumber(value)


def check_fill(value):
    """Refuse what does not tell whether a board fills."""
    if not isinstance(value, bool):
        raise InvalidHouse("the value is no boolean")


def _check_new(yard):
    """Refuse what is no yard without places."""
    check_yard(yard)
    if len(yard) > 0:
        raise InvalidHouse("the yard has places")


def _check_waiting(value):
    """Refuse what is no tuple of jobs with unlike keys."""
    if not isinstance(value, tuple) or not all([is_waiting_row(row) for row in value]):
        raise InvalidJob("the value is no tuple of jobs that wait")
    if len(set([row[0] for row in value])) < len(value):
        raise InvalidJob("two jobs that wait have the same key")


def is_waiting_row(value):
    """Whether the value is a job that waits: a triple of a key, an ask and a length."""
    if not isinstance(value, tuple) or len(value) != 3:
        return False
    return is_key(value[0]) and is_ask(value[1]) and is_length(value[2])


def _bids_of(ground, waiting):
    """The rows of jobs with their bids."""
    return [(key, Bid(ground.layout, ground.house_shifts, ask), length) for key, ask, length in waiting]
