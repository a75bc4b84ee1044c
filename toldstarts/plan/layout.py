"""Where the numbers of all machines and of the whole house stand in one integer, so that all are looked at together.

A number stands in a field of FIELD bits, with EVEN added: the highest bit of a field, its top, is set exactly
if the number is not below 0. Each machine has a segment: a field that is even while the machine is open, a
field for each of its kinds, and one bit more, its guard, which is not set. Above the segments of all machines
are the fields of the kinds of the house, in the order in which the house got them.
"""

from toldstarts.base.amounts import MAX_KINDS, sure_amounts
from toldstarts.house.formulas import is_true
from toldstarts.house.slack import SetFields
from toldstarts.room.fields import EVEN, FIELD


class Layout:
    """The segments of some machines."""

    def __init__(self, crew):
        bottoms = []
        shifts = []
        guards = []
        base = bottom = 0
        for machine in crew:
            own = {}
            top = bottom + FIELD
            base = base + (EVEN << bottom)
            for kind, number in machine.amounts.pairs:
                own[kind] = top
                base = base + ((EVEN + number) << top)
                top = top + FIELD
            bottoms.append(bottom)
            shifts.append(own)
            guards.append(1 << top)
            bottom = top + 1
        self.crew = crew
        self.racks = [machine.rack for machine in crew]
        self.bottoms = bottoms
        self.shifts = shifts
        self.guards = guards
        self.all_guards = sum(guards)
        # All bits of each segment below its guard: added to some tops, they set the guards of their segments.
        self.fillers = self.all_guards - sum([1 << own_bottom for own_bottom in bottoms])
        self.alike = _alike(crew, bottoms, shifts, guards)
        self.empty_base = base
        self.house_bottom = bottom
        # How far two copies of such an integer must stand apart, whatever kinds the house will get.
        self.stride = bottom + FIELD * MAX_KINDS
        # What many bids use: copies by their number, and the fields of all sets of groups by the number of the groups.
        self.known_copies = {}
        self.known_fields = {}

    def packed(self, at, amounts):
        """What a machine gives away if it gives some amounts of kinds that it has."""
        shifts = self.shifts[at]
        return sum([number << shifts[kind] for kind, number in amounts.pairs])

    def wanted_of(self, formula, amounts):
        """What some amounts are on all machines with their kinds for which a formula holds.

        These are their guards, the amounts themselves, and the tops that are set if they are open and have enough.
        """
        members = wanted = tops = 0
        pairs = amounts.pairs
        for (marks, _), (fields, ones, guards) in self.alike.items():
            own = packed_with_tops(fields, pairs)
            if own is not None and is_true(formula, marks):
                members = members + guards
                wanted = wanted + ones * own[0]
                tops = tops + ones * (EVEN + own[1])
        return (members, wanted, tops)

    def copies(self, many):
        """Where so many copies stand, a one at the begin of each, and the fillers and the guards in all of them."""
        if many not in self.known_copies:
            strides = [self.stride * at for at in range(many)]
            repeat = sum([1 << stride for stride in strides])
            self.known_copies[many] = (strides, repeat, self.fillers * repeat, self.all_guards * repeat)
        return self.known_copies[many]

    def set_fields(self, many):
        """The fields of all sets of so many groups."""
        if many not in self.known_fields:
            self.known_fields[many] = SetFields(many)
        return self.known_fields[many]

    def shut_one(self, at):
        """What is held of a machine by one shut span."""
        return 1 << self.bottoms[at]


def _alike(crew, bottoms, shifts, guards):
    """For all machines with the same marks and kinds what they have in common.

    This is where the numbers of the kinds stand above the bottom of each, a one at each bottom, and their guards.
    """
    found = {}
    for machine, bottom, own, guard in zip(crew, bottoms, shifts, guards):
        mark = (machine.marks, machine.amounts.kinds)
        if mark in found:
            fields, ones, some = found[mark]
        else:
            fields, ones, some = {kind: own[kind] - bottom for kind in own}, 0, 0
        found[mark] = (fields, ones + (1 << bottom), some + guard)
    return found


def more_shifts(layout, shifts, amounts):
    """The shifts of the kinds of the house, if it gets some amounts more."""
    found = {kind: shifts[kind] for kind in shifts}
    for kind in amounts.kinds:
        if kind not in found:
            found[kind] = layout.house_bottom + FIELD * len(found)
    return found


def raised_bases(bases, old_shifts, shifts, amounts):
    """The integers if the house has so much more from the beginning."""
    more = sum([number << shifts[kind] for kind, number in amounts.pairs])
    more = more + sum([EVEN << shifts[kind] for kind in shifts if kind not in old_shifts])
    return [base + more for base in bases]


def packed_house(shifts, amounts):
    """The numbers of amounts of which the house has all kinds."""
    return sum([number << shifts[kind] for kind, number in amounts.pairs])


def packed_with_tops(shifts, pairs):
    """The numbers of some pairs, and the tops of their kinds; None if there is no shift for one of these."""
    numbers = tops = 0
    for kind, number in pairs:
        if kind not in shifts:
            return None
        numbers = numbers + (number << shifts[kind])
        tops = tops + (EVEN << shifts[kind])
    return (numbers, tops)


def number_in(base, shift):
    """The number in the field that begins at a bit."""
    return (base >> shift) & (EVEN - 1)


def least_free(bases, shifts):
    """The amounts of the kinds with some shifts that are free in all of some integers."""
    found = [(kind, min([number_in(base, shift) for base in bases])) for kind, shift in shifts.items()]
    return sure_amounts(tuple([(kind, number) for kind, number in found if number > 0]))
