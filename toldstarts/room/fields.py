"""Numbers of all kinds of a room, packed into one integer, so that all kinds are looked at together.

The number of the kind with the index i stands in the FIELD bits from FIELD * i on. What is free has EVEN
added in each field: the highest bit of a field, its top, is set exactly if the number is not below 0. No
number here goes beyond some millions on either side, so no field runs over.
"""

from toldstarts.base.amounts import sure_amounts

FIELD = 24
EVEN = 8388608


class KindFields:
    """The fields of some ascending kinds."""

    def __init__(self, kinds):
        self.field_kinds = kinds
        self.shifts = {kind: FIELD * at for at, kind in enumerate(kinds)}
        self.all_tops = sum([EVEN << (FIELD * at) for at in range(len(kinds))])
        self.all_rests = sum([(EVEN - 1) << (FIELD * at) for at in range(len(kinds))])

    def packed(self, amounts):
        """The numbers of amounts; kinds that there are not are left out."""
        return sum([number << self.shifts[kind] for kind, number in amounts.pairs if kind in self.shifts])

    def tops_of(self, amounts):
        """The tops of the fields of the kinds of amounts; kinds that there are not are left out."""
        return sum([EVEN << self.shifts[kind] for kind, _ in amounts.pairs if kind in self.shifts])

    def least_short(self, free, tops):
        """The least kind among those with some tops of which the number is below 0."""
        short = tops - (free & tops)
        return self.field_kinds[((short & -short).bit_length() - 1) // FIELD]

    def amounts_of(self, numbers):
        """The amounts with some numbers, of which none is below 0."""
        found = [(kind, number_at(numbers, shift)) for kind, shift in self.shifts.items()]
        return sure_amounts(tuple([(kind, number) for kind, number in found if number > 0]))

    def lesser(self, one, other):
        """In each field the lesser one of two numbers, of which none is below 0."""
        pick = self._pick(one, other)
        return (other & pick) | (one & (self.all_rests - pick))

    def greater(self, one, other):
        """In each field the greater one of two numbers, of which none is below 0."""
        pick = self._pick(one, other)
        return (one & pick) | (other & (self.all_rests - pick))

    def _pick(self, one, other):
        """All bits but the top of each field in which the first one of two numbers is not the lesser one."""
        tops = (one + self.all_tops - other) & self.all_tops
        return tops - (tops >> (FIELD - 1))


def number_at(numbers, shift):
    """The number in the field that begins at a bit, if it is not below 0."""
    return (numbers >> shift) & (EVEN - 1)
