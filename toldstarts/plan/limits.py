"""Doors through which jobs come in, and limits of what runs at the same time."""

from toldstarts.base.amounts import MAX_AMOUNT, MAX_KINDS, is_kind, sure_amounts
from toldstarts.base.checks import is_between, is_name, is_same, is_word
from toldstarts.base.ticks import check_tick
from toldstarts.errors import InvalidHouse, InvalidJob, InvalidNumber, UnknownName
from toldstarts.jobs.jobs import MAX_LIMIT, check_job
from toldstarts.rank.accounts import Accounts
from toldstarts.room.rooms import check_room, first_lacks

MAX_LIMITS = 24
MAX_HOUSE_DOORS = 12

WHERES = ("account", "person", "door")
JOBS = "jobs"


class Doors:
    """The doors of a house, each with the longest limit of the jobs that come in through it."""

    def __init__(self, rows):
        if not _are_door_rows(rows):
            raise InvalidHouse("the rows are no doors")
        self._rows = rows
        self._longest = dict(rows)

    @property
    def names(self):
        """The names, in the order of the rows."""
        return tuple([name for name, _ in self._rows])

    def longest(self, name):
        """The longest limit of a door."""
        if name not in self:
            raise UnknownName(name)
        return self._longest[name]

    def usable(self, job):
        """The names of the doors that are usable for a job, in the order of the job."""
        check_job(job)
        return tuple([name for name in job.doors if job.limit <= self._longest.get(name, 0)])

    def __contains__(self, x):
        return isinstance(x, str) and x in self._longest

    def __len__(self):
        return len(self._rows)

    def __iter__(self):
        return iter(self._rows)

    def __eq__(self, other):
        return isinstance(other, Doors) and self._rows == other._rows

    def __str__(self):
        return f"{len(self._rows)} doors"


class Limits:
    """Limit rows over the jobs of accounts and persons, and over those that come through doors."""

    def __init__(self, accounts, rows=()):
        if not isinstance(accounts, Accounts):
            raise InvalidHouse("the accounts are no object of Accounts")
        if not _are_limit_rows(rows):
            raise InvalidHouse("the rows are no limit rows")
        for (where, name), _, _ in rows:
            if where == "account" and name not in accounts:
                raise UnknownName(name)
        self._accounts = accounts
        self._rows = rows
        self._amounts = sure_amounts(tuple(sorted([(_kind_of(index), row[2]) for index, row in enumerate(rows)])))

    @property
    def accounts(self):
        """The accounts."""
        return self._accounts

    @property
    def rows(self):
        """The limit rows."""
        return self._rows

    @property
    def amounts(self):
        """What the house has of the kinds of all limits."""
        return self._amounts

    def need(self, index, job):
        """How much of a limit a job needs, if its row covers it."""
        if not is_between(index, 0, len(self._rows) - 1):
            raise InvalidNumber(index)
        check_job(job)
        what = self._rows[index][1]
        return 1 if what == JOBS else job.total[what]

    def covering(self, job, door):
        """The indices of the rows that cover a job at a door, and of which it needs something."""
        self._check(job, door)
        return tuple([index for index, _ in self.needs_at(job, (door,))[0]])

    def beyond(self, job, door):
        """The indices of those rows of which a job needs more at a door than there ever is."""
        self._check(job, door)
        return self.too_great(self.needs_at(job, (door,))[0])

    def house_amounts(self, job, door):
        """What a job holds of the whole house if it comes in through a door."""
        self._check(job, door)
        return _with_needs(job.tokens, self.needs_at(job, (door,))[0])

    def ask(self, doors, job):
        """What a job wants of machines and of the house, for each usable door."""
        check_doors(doors)
        check_job(job)
        self._check_account(job)
        return ask_of(job, self.needs_at(job, doors.usable(job)))

    def needs_at(self, job, doors):
        """For each of some doors what a job of an account that there is needs of the rows that cover it there.

        These are pairs (index, need), ascending, with a need above 0.
        """
        total = dict(job.total.pairs)
        total[JOBS] = 1
        # The names that rows have which cover the job.
        names = {"account": self._accounts.line(job.account), "person": (job.person,), "door": doors}
        rows = [(index, total[what], name if where == "door" else None)
                for index, ((where, name), what, _) in enumerate(self._rows) if what in total and name in names[where]]
        return [[(index, need) for index, need, at in rows if at is None or at == door] for door in doors]

    def too_great(self, needs):
        """The indices of those needs that are above what there ever is."""
        return tuple([index for index, need in needs if self._rows[index][2] < need])

    def __len__(self):
        return len(self._rows)

    def __eq__(self, other):
        return isinstance(other, Limits) and self._rows == other._rows and self._accounts == other._accounts

    def __str__(self):
        return f"{len(self._rows)} limits"

    def _check(self, job, door):
        """Refuse what is no job, none of its doors, and an account that there is not."""
        check_job(job)
        if door not in job.doors:
            raise UnknownName(door)
        self._check_account(job)

    def _check_account(self, job):
        """Refuse a job of an account that there is not."""
        if job.account not in self._accounts:
            raise UnknownName(job.account)


def broken_limits(limits, room, job, door, tick):
    """The pairs (index, first tick) of the limits that are broken for a job at a door and a start."""
    check_limits(limits)
    check_room(room)
    check_job(job)
    if door not in job.doors:
        raise UnknownName(door)
    check_tick(tick)
    if job.account not in limits.accounts:
        raise UnknownName(job.account)
    return _broken(limits, room, job, door, tick)


def least_broken(limits, doors, room, job, tick):
    """The least sets of limits that are broken at the usable doors, each with the first door that has it."""
    check_limits(limits)
    check_doors(doors)
    check_room(room)
    check_job(job)
    check_tick(tick)
    if job.account not in limits.accounts:
        raise UnknownName(job.account)
    found = {}
    for door in doors.usable(job):
        broken = _broken(limits, room, job, door, tick)
        found.setdefault(tuple([index for index, _ in broken]), door)
    return tuple(sorted([(some, found[some]) for some in found if not _has_part(some, found)]))


def is_least_broken(limits, doors, room, job, tick, value):
    """Whether a value is the tuple of these least sets."""
    return is_same(value, least_broken(limits, doors, room, job, tick))


def check_doors(value):
    """Refuse what are no doors."""
    if not isinstance(value, Doors):
        raise InvalidHouse("the value is no object of Doors")


def check_limits(value):
    """Refuse what are no limits."""
    if not isinstance(value, Limits):
        raise InvalidHouse("the value is no object of Limits")


def ask_of(job, needs):
    """The ask of a job with the needs at each of its usable doors."""
    return tuple([(job.groups, _with_needs(job.tokens, pairs)) for pairs in needs])


def _with_needs(tokens, needs):
    """Tokens, and beside them the needs of a job at a door."""
    numbers = dict(tokens.pairs)
    for index, need in needs:
        kind = _kind_of(index)
        numbers[kind] = numbers.get(kind, 0) + need
    if len(numbers) > MAX_KINDS or max(numbers.values(), default=0) > MAX_AMOUNT:
        raise InvalidJob("the job wants more of the house than amounts can tell")
    return sure_amounts(tuple([(kind, numbers[kind]) for kind in sorted(numbers)]))


def _broken(limits, room, job, door, tick):
    """The pairs (index, first tick) of the limits that are broken for a job at a door and a start."""
    needs = limits.needs_at(job, (door,))[0]
    want = sure_amounts(tuple(sorted([(_kind_of(index), need) for index, need in needs])))
    lacks = first_lacks(room, want, tick, tick + job.limit)
    return tuple([(index, lacks[_kind_of(index)]) for index, _ in needs if _kind_of(index) in lacks])


def _has_part(some, others):
    """Whether one of some other sets is a part of a set."""
    return any([other != some and all([index in some for index in other]) for other in others])


def _kind_of(index):
    """The kind of the limit row with an index."""
    return f"l{index + 1}"


def is_door_row(value):
    """Whether the value is the row of a door."""
    return (isinstance(value, tuple) and len(value) == 2 and is_name(value[0])
            and is_between(value[1], 1, MAX_LIMIT))


def _are_door_rows(value):
    """Whether the value are rows of doors."""
    if not isinstance(value, tuple) or not 1 <= len(value) <= MAX_HOUSE_DOORS:
        return False
    return all([is_door_row(row) for row in value]) and len(set([row[0] for row in value])) == len(value)


def _are_limit_rows(value):
    """Whether the value are few enough limit rows, of which no two have the same first members."""
    if not isinstance(value, tuple) or len(value) > MAX_LIMITS or not all([is_limit_row(row) for row in value]):
        return False
    return len(set([row[:2] for row in value])) == len(value)


def is_limit_row(value):
    """Whether the value is a limit row."""
    if not isinstance(value, tuple) or len(value) != 3:
        return False
    where, what, most = value
    if not isinstance(where, tuple) or len(where) != 2 or where[0] not in WHERES or not is_name(where[1]):
        return False
    return is_word(what) and is_kind(what) and is_between(most, 1, MAX_AMOUNT)
