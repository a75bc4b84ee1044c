"""Where the numbers of all machines and of the whole house stand in one integer, so that all are looked at together.

A number stands in a field of FIELD bits, with EVEN added: the highest bit of a field, its top, is set exactly
if the number is not below 0. Each machine has a segment: a field that is even while the machine is open, a
field for each of its kinds, and one bit more, its guard, which is not set. Above the segments of all machines
are the fields of the kinds of the house, in the order in which the house got them.
"""

from toldstarts.base.amounts import MAX_KINDS, sure_amounts
from toldstarts.house.formulas import is_true
from toldstarts.house.slack import SetFields
from toldstarts.room.fields import EVEN, FIELD


class Layout:
    """The segments of some machines."""

    def __init__(self, crew):
        bottoms = []
        shifts = []
        guards = []
        alike = {}
        base = fillers = bottom = 0
        for machine in crew:
            kinds = machine.amounts.kinds
            bottoms.append(bottom)
            own = {kind: bottom + FIELD * (at + 1) for at, kind in enumerate(kinds)}
            shifts.append(own)
            top = bottom + FIELD * (len(kinds) + 1)
            guards.append(1 << top)
            base = base + (EVEN << bottom)
            base = base + sum([(EVEN + number) << own[kind] for kind, number in machine.amounts.pairs])
            fillers = fillers + (1 << top) - (1 << bottom)
            first, ones, some = alike.get((machine.marks, kinds), (len(shifts) - 1, 0, 0))
            alike[(machine.marks, kinds)] = (first, ones + (1 << bottom), some + (1 << top))
            bottom = top + 1
        self.crew = crew
        # For all machines with the same marks and kinds: the first one, a one at the bottom of each, and their guards.
        self.alike = alike
        self.racks = [machine.rack for machine in crew]
        self.bottoms = bottoms
        self.shifts = shifts
        self.guards = guards
        self.all_guards = sum(guards)
        # All bits of each segment below its guard: added to some tops, they set the guards of their segments.
        self.fillers = fillers
        self.empty_base = base
        self.house_bottom = bottom
        # How far two copies of such an integer must stand apart, whatever kinds the house will get.
        self.stride = bottom + FIELD * MAX_KINDS
        # The fields of all sets of groups, by the number of the groups.
        self.known_fields = {}

    def packed(self, at, amounts):
        """What a machine gives away if it gives some amounts of kinds that it has."""
        shifts = self.shifts[at]
        return sum([number << shifts[kind] for kind, number in amounts.pairs])

    def wanted_of(self, formula, amounts):
        """What some amounts are on all machines with their kinds for which a formula holds.

        These are their guards, the amounts themselves, and the tops that are set if they are open and have enough.
        """
        members = wanted = tops = 0
        pairs = amounts.pairs
        for (marks, kinds), (first, ones, guards) in self.alike.items():
            if all([kind in kinds for kind, _ in pairs]) and is_true(formula, marks):
                shifts, bottom = self.shifts[first], self.bottoms[first]
                members = members + guards
                wanted = wanted + ones * (sum([number << shifts[kind] for kind, number in pairs]) >> bottom)
                tops = tops + ones * (EVEN + (sum([EVEN << shifts[kind] for kind, _ in pairs]) >> bottom))
        return (members, wanted, tops)

    def set_fields(self, many):
        """The fields of all sets of so many groups."""
        if many not in self.known_fields:
            self.known_fields[many] = SetFields(many)
        return self.known_fields[many]

    def shut_one(self, at):
        """What is held of a machine by one shut span."""
        return 1 << self.bottoms[at]


def more_shifts(layout, shifts, amounts):
    """The shifts of the kinds of the house, if it gets some amounts more."""
    found = {kind: shifts[kind] for kind in shifts}
    for kind in amounts.kinds:
        if kind not in found:
            found[kind] = layout.house_bottom + FIELD * len(found)
    return found


def raised_bases(bases, old_shifts, shifts, amounts):
    """The integers if the house has so much more from the beginning."""
    more = sum([number << shifts[kind] for kind, number in amounts.pairs])
    more = more + sum([EVEN << shifts[kind] for kind in shifts if kind not in old_shifts])
    return [base + more for base in bases]


def packed_house(shifts, amounts):
    """The numbers of amounts of which the house has all kinds."""
    return sum([number << shifts[kind] for kind, number in amounts.pairs])


def house_tops(shifts, amounts):
    """The tops of the kinds of such amounts."""
    return sum([EVEN << shifts[kind] for kind, _ in amounts.pairs])


def number_in(base, shift):
    """The number in the field that begins at a bit."""
    return (base >> shift) & (EVEN - 1)


def least_free(bases, shifts):
    """The amounts of the kinds with some shifts that are free in all of some integers."""
    found = [(kind, min([number_in(base, shift) for base in bases])) for kind, shift in shifts.items()]
    return sure_amounts(tuple([(kind, number) for kind, number in found if number > 0]))
