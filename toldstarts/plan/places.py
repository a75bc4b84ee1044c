"""Yards of machines, in which jobs get places."""

from toldstarts.base.amounts import Amounts, check_amounts
from toldstarts.base.checks import is_between
from toldstarts.base.ticks import MAX_TICK, check_tick, is_tick
from toldstarts.errors import InvalidChoice, InvalidHouse, InvalidJob, InvalidMachine, InvalidNumber
from toldstarts.errors import InvalidTick, Refused, TooMany, UnknownName
from toldstarts.house.choices import MAX_CREW, MAX_RACKS
from toldstarts.house.machines import Machine
from toldstarts.plan.asks import Bid, is_ask, is_key, is_length, is_place_form
from toldstarts.plan.bars import bars_from, is_bars_from
from toldstarts.plan.ground import check_looked, new_ground
from toldstarts.plan.layout import least_free
from toldstarts.plan.search import earliest_at_all, is_fitting
from toldstarts.room.rooms import MAX_PERIOD, Room

MAX_PLACES = 200
MAX_TICKS_LOOKED = 20000

MAX_SPANS = 200
MAX_TURNS = 40


class Yard:
    """Machines and amounts for the whole house, with places of jobs, shut spans and windows."""

    def __init__(self, machines, amounts=None, *, period=1):
        check_machines(machines)
        if amounts is not None:
            check_amounts(amounts)
        if not is_between(period, 1, MAX_PERIOD):
            raise InvalidNumber(period)
        self._ground = new_ground(machines, Amounts() if amounts is None else amounts, period)

    @property
    def machines(self):
        """The machines."""
        return self._ground.layout.crew

    @property
    def amounts(self):
        """What the whole house has."""
        return self._ground.stock

    @property
    def period(self):
        """After how many ticks the windows come again."""
        return self._ground.cycle

    @property
    def head(self):
        """The tick from which on each tick is like the one a period later."""
        return self._ground.top

    @property
    def shut_spans(self):
        """The triples (machine, begin, end) of the shut spans, ascending."""
        return self._ground.span_rows

    @property
    def windows(self):
        """The triples (machine, begin, length) of the windows, ascending."""
        return self._ground.turn_rows

    @property
    def places(self):
        """The dict from the keys to the triples (place, length, ask)."""
        return {key: stay[:3] for key, stay in self._ground.stays.items()}

    def with_place(self, key, place, length, ask):
        """The yard with a place for an ask and a length."""
        if not is_key(key):
            raise InvalidNumber(key)
        check_run(ask, length)
        ground = self._ground
        if not is_place_form(place, ask, len(ground.layout.crew)):
            raise InvalidChoice("the value has not the form of a place for the ask")
        if key in ground.stays:
            raise Refused(("taken", key))
        bid = Bid(ground.layout, ground.house_shifts, ask)
        if not is_fitting(ground, bid, length, place):
            raise Refused(("unfit", key))
        if len(ground.stays) >= MAX_PLACES:
            raise TooMany(MAX_PLACES)
        return yard_of(ground.with_stay(key, place, length, ask, bid.held_by(place, ground.house_shifts)))

    def without_place(self, key):
        """The yard without the place of a key."""
        if key not in self:
            raise UnknownName(key)
        return yard_of(self._ground.without_stay(key))

    def with_shut(self, machine, begin, end):
        """The yard with a machine shut from a tick up to an end, or for ever."""
        self._check_machine(machine)
        check_span(begin, end)
        self._refuse_met(self._ground.span_rows, (machine, begin, end), self._ground.keys_meeting(machine, begin, end))
        if len(self._ground.span_rows) >= MAX_SPANS:
            raise TooMany(MAX_SPANS)
        return yard_of(self._ground.with_span(machine, begin, end))

    def without_shut(self, machine, begin, end):
        """The yard without a shut span."""
        if not is_row_of(self._ground.span_rows, (machine, begin, end)):
            raise UnknownName((machine, begin, end))
        return yard_of(self._ground.without_span(machine, begin, end))

    def with_window(self, machine, begin, length):
        """The yard with a machine shut in each period from a tick on, for a length."""
        self._check_machine(machine)
        if not is_between(begin, 0, self.period - 1) or not is_between(length, 1, self.period):
            raise InvalidTick("a window has a begin below the period, and a length up to the period")
        turns = self._ground.turn_rows
        self._refuse_met(turns, (machine, begin, length), self._ground.keys_in_window(machine, begin, length))
        if len(turns) >= MAX_TURNS:
            raise TooMany(MAX_TURNS)
        return yard_of(self._ground.with_turns(turns + ((machine, begin, length),)))

    def without_window(self, machine, begin, length):
        """The yard without a window."""
        window, turns = (machine, begin, length), self._ground.turn_rows
        if not is_row_of(turns, window):
            raise UnknownName(window)
        return yard_of(self._ground.with_turns(tuple([row for row in turns if row != window])))

    def free(self, machine, begin, end):
        """What a machine has free in each tick from begin up to end, or None if it is shut in one of them."""
        self._check_machine(machine)
        if not is_tick(begin) or not is_tick(end) or not begin < end:
            raise InvalidTick("the values are no tick and a greater one")
        ground = self._ground
        if ground.shutter(machine).meets(begin, end):
            return None
        return least_free(ground.bases_in(begin, end), ground.layout.shifts[machine])

    def house_room(self):
        """The room of the whole house, with a claim for each place that takes some of its amounts."""
        room = Room(self.amounts, period=self.period)
        for place, length, asked, _ in self._ground.stays.values():
            start, door, _ = place
            taken = asked[door][1]
            if taken.pairs:
                if start + length > MAX_TICK:
                    raise TooMany(MAX_TICK)
                room = room.with_claim((start, start + length, taken))
        return room

    def with_more(self, amounts):
        """The yard whose house has so much more."""
        check_amounts(amounts)
        return yard_of(self._ground.with_stock(amounts))

    def __contains__(self, x):
        return is_key(x) and x in self._ground.stays

    def __len__(self):
        return len(self._ground.stays)

    def __iter__(self):
        return iter(self._ground.stays)

    def __eq__(self, other):
        return isinstance(other, Yard) and self._key() == other._key()

    def __str__(self):
        return f"yard of {len(self.machines)} machines, {len(self._ground.stays)} places"

    def _key(self):
        """What is equal for equal yards."""
        return (self.machines, self.amounts, self.period, self.shut_spans, self.windows, self.places)

    def _check_machine(self, machine):
        """Refuse what is no index of a machine."""
        if not is_between(machine, 0, len(self.machines) - 1):
            raise InvalidNumber(machine)

    def _refuse_met(self, rows, row, keys):
        """Refuse a row that is there already, or that shuts a machine that some places have."""
        if row in rows:
            raise Refused(("twice",))
        if keys:
            raise Refused(("met", tuple(keys)))


def earliest_place(yard, ask, length, since):
    """The earliest place for an ask and a length from a tick on, or None."""
    ground, bid = _checked(yard, ask, length)
    check_tick(since)
    check_looked(ground, since)
    return earliest_at_all(ground, bid, length, since)


def place_bars(yard, ask, length, since):
    """Bars from a tick that show the start of the earliest place, or that there is never one."""
    ground, _ = _checked(yard, ask, length)
    check_tick(since)
    check_looked(ground, since)
    return bars_from(ground, ask, length, since)


def is_place(yard, ask, length, value):
    """Whether the value is a place that fits."""
    ground, bid = _checked(yard, ask, length)
    return is_place_form(value, ask, len(ground.layout.crew)) and is_fitting(ground, bid, length, value)


def is_place_bars(yard, ask, length, since, value):
    """Whether the value is bars from a tick that show a start, or that there is never one."""
    ground, bid = _checked(yard, ask, length)
    check_tick(since)
    return is_bars_from(ground, bid, length, since, value)


def yard_of(ground):
    """The yard with a ground that is surely right."""
    made = Yard(ground.layout.crew[:1])
    made._ground = ground
    return made


def ground_of(yard):
    """The ground of a yard."""
    return yard._ground


def check_yard(value):
    """Refuse what is no yard."""
    if not isinstance(value, Yard):
        raise InvalidHouse("the value is no object of Yard")


def check_machines(value):
    """Refuse what are no machines of a yard."""
    if not isinstance(value, tuple) or not 1 <= len(value) <= MAX_CREW:
        raise InvalidMachine("the machines are no tuple of few enough machines")
    if not all([isinstance(machine, Machine) for machine in value]):
        raise InvalidMachine("one of the machines is none")
    if len(set([machine.name for machine in value])) < len(value):
        raise InvalidMachine("two machines have the same name")
    if len(set([machine.rack for machine in value])) > MAX_RACKS:
        raise InvalidMachine("the machines stand in too many racks")


def check_run(ask, length):
    """Refuse what is no length of a run, or no ask."""
    if not is_length(length):
        raise InvalidNumber(length)
    if not is_ask(ask):
        raise InvalidJob("the value is no ask")


def check_span(begin, end):
    """Refuse what is no tick, and a greater one or None."""
    if not is_tick(begin) or not (end is None or is_tick(end) and begin < end):
        raise InvalidTick("the values are no tick and a greater one, or no end")


def is_row_of(rows, row):
    """Whether a row of numbers, or of values of any kind, is among some rows."""
    return row in rows and not any([isinstance(value, bool) for value in row])


def _checked(yard, ask, length):
    """The ground of a yard, and the bid of an ask."""
    check_yard(yard)
    if not is_ask(ask):
        raise InvalidJob("the value is no ask")
    if not is_length(length):
        raise InvalidNumber(length)
    ground = yard._ground
    return ground, Bid(ground.layout, ground.house_shifts, ask)
