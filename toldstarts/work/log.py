"""Logs: a setting and the deeds that were done, and their texts."""

from toldstarts.base.checks import is_between
from toldstarts.errors import HouseError, InvalidDeed, InvalidHouse, InvalidNumber, Lacking, Refused, TooMany
from toldstarts.errors import UnknownName
from toldstarts.jobs.reader import write_job
from toldstarts.plan.limits import Doors, Limits
from toldstarts.rank.accounts import Accounts
from toldstarts.work.deeds import is_deed
from toldstarts.work.house import House
from toldstarts.work.reading import read_parts
from toldstarts.work.writing import deed_lines, setting_lines

MAX_DEEDS = 1000
MAX_JOB_TEXT = 4000

SETTINGS = 9
# A house is kept behind each so many deeds: from the next one behind it an edited log is done anew.
KEPT_DEEDS = 25


class Log:
    """A setting and deeds, each of which the house accepts behind those ahead of it."""

    def __init__(self, setting, deeds=()):
        if not isinstance(setting, tuple) or len(setting) != SETTINGS:
            raise InvalidHouse("the setting is no tuple of nine")
        self._setting = setting
        self._house = House(*setting)
        self._deeds = ()
        self._events = ()
        self._kept = [self._house]
        _check_deeds(deeds)
        self._go_on(deeds)

    @property
    def setting(self):
        """The nine arguments of the house."""
        return self._setting

    @property
    def deeds(self):
        """The deeds."""
        return self._deeds

    @property
    def events(self):
        """The tuples of the events of all deeds."""
        return self._events

    def house(self):
        """The house behind all deeds, each time another one."""
        return self._house.twin()

    def with_deed(self, deed):
        """The log with one more deed."""
        house = self._house.twin()
        events = house.do(deed)
        if len(self._deeds) >= MAX_DEEDS:
            raise TooMany(MAX_DEEDS)
        made = self._part(len(self._deeds) // KEPT_DEEDS)
        made._house = house
        made._deeds = self._deeds + (deed,)
        made._events = self._events + (events,)
        if len(made._deeds) % KEPT_DEEDS == 0:
            made._kept.append(house)
        return made

    def until(self, count):
        """The log of the first deeds."""
        if not is_between(count, 0, len(self._deeds)):
            raise InvalidNumber(count)
        return self._redone(count, ())

    def edited(self, index, gone, deeds):
        """The log in which, from an index on, some deeds are replaced by others."""
        if not is_between(index, 0, len(self._deeds)):
            raise InvalidNumber(index)
        if not is_between(gone, 0, len(self._deeds) - index):
            raise InvalidNumber(gone)
        _check_deeds(deeds)
        return self._redone(index, deeds + self._deeds[index + gone:])

    def history(self, number):
        """The pairs (deed, event) of all events of a job."""
        if number not in self._house:
            raise UnknownName(number)
        return tuple([(deed, event) for deed, events in enumerate(self._events, start=1) for event in events
                      if event[2] == number])

    def __len__(self):
        return len(self._deeds)

    def __iter__(self):
        return iter(self._deeds)

    def __eq__(self, other):
        return isinstance(other, Log) and self._setting == other._setting and self._deeds == other._deeds

    def __str__(self):
        return f"log of {len(self._deeds)} deeds"

    def last_house(self):
        """The house behind all deeds itself, which must not be changed."""
        return self._house

    def _part(self, many):
        """The log up to a kept house, which is to be gone on with before it is passed on."""
        made = Log(self._setting)
        made._kept = self._kept[:many + 1]
        made._house = made._kept[many]
        made._deeds = self._deeds[:many * KEPT_DEEDS]
        made._events = self._events[:many * KEPT_DEEDS]
        return made

    def _redone(self, count, deeds):
        """The log of the first deeds with others behind them."""
        many = count // KEPT_DEEDS
        made = self._part(many)
        made._go_on(self._deeds[many * KEPT_DEEDS:count] + deeds)
        return made

    def _go_on(self, deeds):
        """Do further deeds, which have the right form."""
        if len(self._deeds) + len(deeds) > MAX_DEEDS:
            raise TooMany(MAX_DEEDS)
        house, found, kept = self._house.twin(), list(self._events), list(self._kept)
        for deed in deeds:
            try:
                events = house.do(deed)
            except (HouseError, UnknownName, Refused, TooMany, InvalidNumber, Lacking):
                raise Refused(("deed", len(found)))
            found.append(events)
            if len(found) % KEPT_DEEDS == 0:
                kept.append(house.twin())
        self._house = house
        self._deeds = self._deeds + deeds
        self._events = tuple(found)
        self._kept = kept


def write_log(log):
    """The text of a log."""
    check_log(log)
    for deed in list(log):
        if deed[0] in ("come", "row") and len(write_job(deed[1])) > MAX_JOB_TEXT:
            raise TooMany(MAX_JOB_TEXT)
    lines = setting_lines(log.setting)
    for deed in list(log):
        lines.extend(deed_lines(deed))
    return "\n".join(lines)


def read_log(text):
    """The log with a text."""
    parts, deeds = read_parts(text)
    doors = Doors(tuple(parts["door"]))
    limits = Limits(Accounts(tuple(parts["account"])), tuple(parts["limit"]))
    setting = (tuple(parts["machine"]), parts["tokens"][0], doors, limits, parts["weights"][0], parts["depth"][0],
               parts["fill"][0], parts["period"][0], tuple(parts["window"]))
    return Log(setting, deeds)


def check_log(value):
    """Refuse what is no log."""
    if not isinstance(value, Log):
        raise InvalidHouse("the value is no object of Log")


def _check_deeds(value):
    """Refuse what is no tuple of deeds by their forms."""
    if not isinstance(value, tuple) or not all([is_deed(deed) for deed in value]):
        raise InvalidDeed("the value is no tuple of deeds")
