"""Logs: a setting and the deeds that were done, and their texts."""

from toldstarts.base.checks import is_between
from toldstarts.errors import HouseError, InvalidDeed, InvalidHouse, InvalidNumber, Lacking, Refused, TooMany
from toldstarts.errors import UnknownName
from toldstarts.jobs.reader import write_job
from toldstarts.plan.limits import Doors, Limits
from toldstarts.rank.accounts import Accounts
from toldstarts.work.deeds import is_deed
from toldstarts.work.doing import done
from toldstarts.work.house import house_with
from toldstarts.work.inside import new_inside
from toldstarts.work.reading import read_parts
from toldstarts.work.rules import check_setting
from toldstarts.work.writing import deed_lines, setting_lines

MAX_DEEDS = 1000
MAX_JOB_TEXT = 4000

SETTINGS = 9
JOBS_PER_STEP = 8


class Log:
    """A setting and deeds, each of which the house accepts behind those ahead of it."""

    def __init__(self, setting, deeds=()):
        if not isinstance(setting, tuple) or len(setting) != SETTINGS:
            raise InvalidHouse("the setting is no tuple of nine")
        check_setting(setting)
        _check_deeds(deeds)
        self._setting = setting
        self._deeds = ()
        self._events = ()
        # The pairs (number of deeds, inside of the house behind them) that are kept, ascending. None of these insides
        # changes: a log that begins with the same deeds is made from them.
        self._kept = ()
        if deeds:
            self._go_on(deeds)

    @property
    def setting(self):
        """The nine arguments of the house."""
        return self._setting

    @property
    def deeds(self):
        """The deeds."""
        return self._deeds

    @property
    def events(self):
        """The tuples of the events of all deeds."""
        return self._events

    def house(self):
        """The house behind all deeds, each time another one."""
        return house_with(self.last_inside())

    def with_deed(self, deed):
        """The log with one more deed."""
        if not is_deed(deed):
            raise InvalidDeed("the value is no deed")
        inside = self.last_inside().copied()
        events = done(inside, deed)
        if len(self._deeds) >= MAX_DEEDS:
            raise TooMany(MAX_DEEDS)
        made = self._part(len(self._deeds))
        made._deeds = self._deeds + (deed,)
        made._events = self._events + (events,)
        made._kept = _with_kept(made._kept, len(made._deeds), inside)
        return made

    def until(self, count):
        """The log of the first deeds."""
        if not is_between(count, 0, len(self._deeds)):
            raise InvalidNumber(count)
        return self._part(count)

    def edited(self, index, gone, deeds):
        """The log in which, from an index on, some deeds are replaced by others."""
        if not is_between(index, 0, len(self._deeds)):
            raise InvalidNumber(index)
        if not is_between(gone, 0, len(self._deeds) - index):
            raise InvalidNumber(gone)
        _check_deeds(deeds)
        made = self._part(index)
        made._go_on(deeds + self._deeds[index + gone:])
        return made

    def history(self, number):
        """The pairs (deed, event) of all events of a job."""
        if not is_between(number, 1, len(self.last_inside().comers)):
            raise UnknownName(number)
        return tuple([(deed, event) for deed, events in enumerate(self._events, start=1) for event in events
                      if event[2] == number])

    def __len__(self):
        return len(self._deeds)

    def __iter__(self):
        return iter(self._deeds)

    def __eq__(self, other):
        return isinstance(other, Log) and self._setting == other._setting and self._deeds == other._deeds

    def __str__(self):
        return f"log of {len(self._deeds)} deeds"

    def last_inside(self):
        """The inside of the house behind all deeds itself, which must not be changed."""
        many = len(self._deeds)
        if not self._kept:
            self._kept = ((0, new_inside(self._setting)),)
        count, inside = self._kept[-1]
        if count < many:
            inside = inside.copied()
            for deed in self._deeds[count:]:
                done(inside, deed)
            self._kept = self._kept + ((many, inside),)
        return inside

    def _part(self, count):
        """The log of the first deeds."""
        made = Log(self._setting)
        made._deeds = self._deeds[:count]
        made._events = self._events[:count]
        made._kept = tuple([row for row in self._kept if row[0] <= count])
        return made

    def _go_on(self, deeds):
        """Do further deeds, which have the right form."""
        if len(self._deeds) + len(deeds) > MAX_DEEDS:
            raise TooMany(MAX_DEEDS)
        inside, found, kept = self.last_inside(), list(self._events), self._kept
        for deed in deeds:
            inside = inside.copied()
            try:
                events = done(inside, deed)
            except (HouseError, UnknownName, Refused, TooMany, InvalidNumber, Lacking):
                raise Refused(("deed", len(found)))
            found.append(events)
            kept = _with_kept(kept, len(found), inside)
        self._deeds = self._deeds + deeds
        self._events = tuple(found)
        self._kept = kept


def write_log(log):
    """The text of a log."""
    check_log(log)
    for deed in list(log):
        if deed[0] in ("come", "row") and len(write_job(deed[1])) > MAX_JOB_TEXT:
            raise TooMany(MAX_JOB_TEXT)
    lines = setting_lines(log.setting)
    for deed in list(log):
        lines.extend(deed_lines(deed))
    return "\n".join(lines)


def read_log(text):
    """The log with a text."""
    parts, deeds = read_parts(text)
    doors = Doors(tuple(parts["door"]))
    limits = Limits(Accounts(tuple(parts["account"])), tuple(parts["limit"]))
    setting = (tuple(parts["machine"]), parts["tokens"][0], doors, limits, parts["weights"][0], parts["depth"][0],
               parts["fill"][0], parts["period"][0], tuple(parts["window"]))
    return Log(setting, deeds)


def check_log(value):
    """Refuse what is no log."""
    if not isinstance(value, Log):
        raise InvalidHouse("the value is no object of Log")


def _check_deeds(value):
    """Refuse what is no tuple of deeds by their forms."""
    if not isinstance(value, tuple) or not all([is_deed(deed) for deed in value]):
        raise InvalidDeed("the value is no tuple of deeds")


def _with_kept(kept, count, inside):
    """The kept insides with that behind all deeds, of which the one ahead of it stays only if it lies far enough ahead.

    The more jobs have come, the more an inside holds, and the fewer are kept.
    """
    if len(kept) > 1 and kept[-1][0] - kept[-2][0] <= len(inside.comers) // JOBS_PER_STEP:
        kept = kept[:-1]
    return kept + ((count, inside),)
