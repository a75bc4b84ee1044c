"""Desks: a log that is changed, pledges that are kept, and changes that are taken back."""

from toldstarts.base.checks import is_between, is_whole
from toldstarts.base.ticks import is_tick
from toldstarts.errors import InvalidNumber, InvalidPaper, Refused, TooMany, UnknownName
from toldstarts.work.log import check_log

MAX_PLEDGES = 20

WORDS = ("kept", "runs")


class Desk:
    """A log, and pledges about the house to which it leads."""

    def __init__(self, log):
        check_log(log)
        self._log = log
        self._pledges = ()
        # The pairs (log, pledges) ahead of all changes, and those behind the changes that were taken back.
        self._past = ()
        self._ahead = ()

    @property
    def log(self):
        """The log."""
        return self._log

    @property
    def pledges(self):
        """The pledges that are demanded, in the order of the demands."""
        return self._pledges

    def do(self, deed):
        """Do a deed; tell its events."""
        log = self._log.with_deed(deed)
        _refuse_broken(log, self._pledges)
        self._change(log, self._pledges)
        return log.events[-1]

    def edit(self, index, gone, deeds):
        """Edit the log; tell the least index at which the events are other ones, or None."""
        old, log = self._log, self._log.edited(index, gone, deeds)
        _refuse_broken(log, self._pledges)
        self._change(log, self._pledges)
        return _first_difference(old.events, log.events)

    def demand(self, pledge):
        """Demand a pledge."""
        if not _is_pledge(pledge) or pledge in self._pledges:
            raise InvalidPaper("the value is no pledge, or is demanded already")
        if not is_between(pledge[1], 1, len(self._log.last_inside().comers)):
            raise UnknownName(pledge[1])
        if len(self._pledges) >= MAX_PLEDGES:
            raise TooMany(MAX_PLEDGES)
        _refuse_broken(self._log, (pledge,))
        self._change(self._log, self._pledges + (pledge,))

    def waive(self, pledge):
        """Demand a pledge no longer."""
        if pledge not in self:
            raise InvalidPaper("the value is no pledge that is demanded")
        self._change(self._log, tuple([one for one in self._pledges if one != pledge]))

    def undo(self, *, many=1):
        """Take changes back; tell the number of deeds of the log."""
        _check_many(many, self._past)
        for _ in range(many):
            self._ahead = self._ahead + ((self._log, self._pledges),)
            self._log, self._pledges = self._past[-1]
            self._past = self._past[:-1]
        return len(self._log)

    def redo(self, *, many=1):
        """Do changes again that were taken back; tell the number of deeds of the log."""
        _check_many(many, self._ahead)
        for _ in range(many):
            self._past = self._past + ((self._log, self._pledges),)
            self._log, self._pledges = self._ahead[-1]
            self._ahead = self._ahead[:-1]
        return len(self._log)

    def trial(self):
        """What gives the desk, and lets all be as it was behind a block."""
        return Trial(self)

    def during(self, call):
        """What a call returns for the desk, behind which all is as it was."""
        with self.trial() as same:
            return call(same)

    def twin(self):
        """An equal desk that goes on by itself, with the same changes."""
        made = Desk(self._log)
        made._pledges = self._pledges
        made._past = self._past
        made._ahead = self._ahead
        return made

    def house(self):
        """The house behind all deeds, each time another one."""
        return self._log.house()

    def __contains__(self, x):
        return _is_pledge(x) and x in self._pledges

    def __len__(self):
        return len(self._log)

    def __eq__(self, other):
        return isinstance(other, Desk) and self._log == other._log and self._pledges == other._pledges

    def __str__(self):
        return f"desk of {len(self._log)} deeds, {len(self._pledges)} pledges"

    def _change(self, log, pledges):
        """Go on with another log, or with other pledges."""
        self._past = self._past + ((self._log, self._pledges),)
        self._ahead = ()
        self._log = log
        self._pledges = pledges


class Trial:
    """A block behind which a desk is as it was ahead of it."""

    def __init__(self, desk):
        self.tried_desk = desk
        self.kept_log = None
        self.kept_pledges = ()
        self.kept_past = ()
        self.kept_ahead = ()

    def __enter__(self):
        desk = self.tried_desk
        self.kept_log = desk._log
        self.kept_pledges = desk._pledges
        self.kept_past = desk._past
        self.kept_ahead = desk._ahead
        return desk

    def __exit__(self, kind, value, trace):
        desk = self.tried_desk
        desk._log = self.kept_log
        desk._pledges = self.kept_pledges
        desk._past = self.kept_past
        desk._ahead = self.kept_ahead


def _is_pledge(value):
    """Whether the value has the form of a pledge."""
    if not isinstance(value, tuple) or len(value) not in (2, 3) or not is_whole(value[1]):
        return False
    if len(value) == 2:
        return value[0] in WORDS
    return value[0] == "start" and is_tick(value[2])


def _is_kept(inside, pledge):
    """Whether a pledge holds."""
    word, number = pledge[0], pledge[1]
    if number not in inside.comers:
        return False
    if word == "kept":
        return number not in inside.put_off
    stands = inside.stands(number)
    if word == "runs":
        return stands in ("runs", "over")
    start = inside.table.start_of(number) if stands == "told" else inside.begun_at.get(number)
    return start is not None and start <= pledge[2]


def _refuse_broken(log, pledges):
    """Refuse a log behind which a pledge does not hold."""
    if pledges:
        inside = log.last_inside()
        for pledge in pledges:
            if not _is_kept(inside, pledge):
                raise Refused(("pledge", pledge))


def _first_difference(one, other):
    """The least index at which two rows of events are not equal, or where one of them ends; None if they are equal."""
    many = min(len(one), len(other))
    for index in range(many):
        if one[index] != other[index]:
            return index
    return None if len(one) == len(other) else many


def _check_many(many, changes):
    """Refuse what is no number of changes, and more of them than there are."""
    if not is_whole(many) or many < 0:
        raise InvalidNumber(many)
    if many > len(changes):
        raise Refused(("few", len(changes)))
