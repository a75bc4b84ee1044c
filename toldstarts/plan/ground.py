"""What a yard is made of. A ground never changes; what would change it makes another one.

A stay is a tuple (place, length, ask, held) with the integer that the place holds in its span.
"""

from toldstarts.base.checks import place_of
from toldstarts.base.steps import lowered_steps
from toldstarts.errors import TooMany
from toldstarts.plan.asks import members_of
from toldstarts.plan.layout import Layout, more_shifts, raised_bases
from toldstarts.room.fields import EVEN
from toldstarts.plan.shutters import Shutter, meets_window, window_end

MOST_LOOKED = 20000


class Ground:
    """Machines and a house with places, shut spans and windows."""

    def __init__(self, layout, cycle, stock, shifts, bases):
        self.layout = layout
        self.cycle = cycle
        # What the house has, and where the numbers of its kinds stand.
        self.stock = stock
        self.house_shifts = shifts
        self.ticks = [0]
        self.bases = bases
        self.stays = {}
        self.span_rows = ()
        self.turn_rows = ()
        # The head, and all windows of the machines as pairs (guard, (begin, length)).
        self.top = 0
        self.guarded_turns = []
        # What was asked of the search last, and what it told: it has no effect on anything else.
        self.last_asked = None
        self.last_found = None

    def with_stay(self, key, place, length, asked, held):
        """The ground with one place more."""
        made = self._copied()
        stays = {**self.stays, key: (place, length, asked, held)}
        if self.stays and key < max(self.stays):
            stays = {one: stays[one] for one in sorted(stays)}
        made.stays = stays
        start = place[0]
        made.ticks, made.bases = lowered_steps(self.ticks, self.bases, start, start + length, held)
        made.top = max(self.top, start + length)
        return made

    def without_stay(self, key):
        """The ground without the place of a key."""
        made = self._copied()
        place, length, _, held = self.stays[key]
        made.stays = {one: self.stays[one] for one in self.stays if one != key}
        start = place[0]
        made.ticks, made.bases = lowered_steps(self.ticks, self.bases, start, start + length, -held)
        if start + length == self.top:
            made.top = _head_of(made)
        return made

    def with_span(self, machine, begin, end):
        """The ground with a shut span more."""
        return self._with_spans(self.span_rows + ((machine, begin, end),), (machine, begin, end), 1)

    def without_span(self, machine, begin, end):
        """The ground without a shut span that it has."""
        rows = [row for row in self.span_rows if row != (machine, begin, end)]
        return self._with_spans(tuple(rows), (machine, begin, end), -1)

    def with_turns(self, turns):
        """The ground with other windows."""
        made = self._copied()
        made.turn_rows = tuple(sorted(turns))
        guards = self.layout.guards
        made.guarded_turns = [(guards[machine], (begin, length)) for machine, begin, length in made.turn_rows]
        made.top = _head_of(made)
        return made

    def with_stock(self, amounts):
        """The ground whose house has so much more."""
        made = self._copied()
        made.stock = self.stock + amounts
        made.house_shifts = more_shifts(self.layout, self.house_shifts, amounts)
        made.bases = raised_bases(self.bases, self.house_shifts, made.house_shifts, amounts)
        return made

    def horizon(self, since):
        """The tick ahead of which a place begins if any begins from a tick on."""
        return max(since, self.top) + self.cycle

    def bases_in(self, begin, end):
        """The integers of all ticks from begin up to end, each as often as it comes anew."""
        at = place_of(self.ticks, begin)
        found = []
        while at < len(self.ticks) and self.ticks[at] < end:
            found.append(self.bases[at])
            at = at + 1
        return found

    def shutter(self, machine):
        """When a machine is shut."""
        spans = [(begin, end) for one, begin, end in self.span_rows if one == machine]
        return Shutter(spans, [(begin, length) for one, begin, length in self.turn_rows if one == machine], self.cycle)

    def keys_meeting(self, machine, begin, end):
        """The keys of the places that have a machine in a tick from begin up to end, or ever if this is None."""
        return [key for key in self.keys_with(machine)
                if self.end_of(key) > begin and (end is None or self.stays[key][0][0] < end)]

    def keys_in_window(self, machine, begin, length):
        """The keys of the places that have a machine in a tick of a window."""
        return [key for key in self.keys_with(machine)
                if meets_window((begin, length), self.cycle, self.stays[key][0][0], self.end_of(key))]

    def keys_with(self, machine):
        """The keys of the places that have a machine, ascending."""
        return [key for key, stay in self.stays.items() if machine in members_of(stay[0][2])]

    def end_of(self, key):
        """The tick at which the span of a place ends."""
        place, length, _, _ = self.stays[key]
        return place[0] + length

    def shut_mask(self, start, end):
        """The guards of the machines that a window shuts in a tick from one up to another."""
        found = 0
        for guard, window in self.guarded_turns:
            high = window_end(window, self.cycle, end - 1)
            if high is not None and high > start:
                found = found | guard
        return found

    def next_turn_end(self, begin, length, tick):
        """The first end of a window behind a tick."""
        return _next_turn(begin + length, self.cycle, tick)

    def _with_spans(self, spans, row, many):
        """The ground with other shut spans, of which one was added, or taken away if `many` is -1."""
        machine, begin, end = row
        made = self._copied()
        # No end counts as greater than all numbers.
        made.span_rows = tuple([(one, low, None if is_endless else high) for one, low, is_endless, high
                            in sorted([(one, low, high is None, high or 0) for one, low, high in spans])])
        held = many * self.layout.shut_one(machine)
        made.ticks, made.bases = lowered_steps(self.ticks, self.bases, begin, end, held)
        made.top = _head_of(made)
        return made

    def _copied(self):
        """The same ground once more, to be changed before it is passed on."""
        made = Ground(self.layout, self.cycle, self.stock, self.house_shifts, self.bases)
        made.ticks = self.ticks
        made.stays = self.stays
        made.span_rows = self.span_rows
        made.turn_rows = self.turn_rows
        made.top = self.top
        made.guarded_turns = self.guarded_turns
        return made


def new_ground(machines, amounts, cycle):
    """A ground in which nothing is shut or placed."""
    layout = Layout(machines)
    shifts = more_shifts(layout, {}, amounts)
    base = layout.empty_base + sum([(EVEN + number) << shifts[kind] for kind, number in amounts.pairs])
    return Ground(layout, cycle, amounts, shifts, [base])


def check_looked(ground, since):
    """Refuse to look at more than the most ticks behind a tick and up to the horizon."""
    if not are_surely_few(ground, since) and _looked_ticks(ground, since) > MOST_LOOKED:
        raise TooMany(MOST_LOOKED)


def are_surely_few(ground, since):
    """Whether there are surely not more ticks to be looked at than the most; so it is with fewer places, too."""
    many = len(ground.stays) + len(ground.span_rows)
    if ground.turn_rows:
        many = many + len(ground.turn_rows) * ((ground.horizon(since) - since) // ground.cycle + 1)
    return many <= MOST_LOOKED


def _looked_ticks(ground, since):
    """How many ticks behind a tick, up to the horizon, are ends of places, shut spans or windows."""
    last = ground.horizon(since)
    firsts = {}
    for _, begin, length in ground.turn_rows:
        phase = (begin + length) % ground.cycle
        firsts[phase] = min(begin + length, firsts.get(phase, begin + length))
    many = sum([_turns_in(first, ground.cycle, since, last) for first in firsts.values()])
    ends = [place[0] + length for place, length, _, _ in ground.stays.values()]
    ends.extend([end for _, _, end in ground.span_rows if end is not None])
    others = [end for end in sorted(set(ends)) if since < end <= last
              and end < firsts.get(end % ground.cycle, end + 1)]
    return many + len(others)


def _turns_in(first, cycle, since, last):
    """How many of the ticks that come each period from a first one on lie behind a tick, and not behind a last one."""
    low = _next_turn(first, cycle, since)
    return (last - low) // cycle + 1 if low <= last else 0


def _next_turn(first, cycle, tick):
    """The least one behind a tick of the ticks that come each period from a first one on."""
    return max(first, tick + 1 + (first - tick - 1) % cycle)


def _head_of(ground):
    """The tick from which on each tick is like the one a period later."""
    ends = [place[0] + length for place, length, _, _ in ground.stays.values()]
    ends.extend([begin if end is None else end for _, begin, end in ground.span_rows])
    return max([0] + ends + [begin for _, begin, _ in ground.turn_rows])
