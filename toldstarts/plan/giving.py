"""Which runs must give way so that an ask can start at a tick.

A set of some runs, told by their ascending keys, is an integer here: the bit of the first key is the highest one. So of
two sets with as many runs the greater integer is the set that comes first in Python's order.
"""

from toldstarts.base.checks import place_of

# In the numbers by which sets are ordered, the bits of a set, from which on its count stands, and then its cost.
LOWEST = 1023
COUNT_BIT = 10
COST_BIT = 14


class Letting:
    """Tells which sets of some runs let an ask start at a tick."""

    def __init__(self, ground, bid, length, tick, keys):
        self.ground = ground
        self.bid = bid
        self.tick = tick
        self.end_tick = tick + length
        self.all_keys = keys
        self.keys_by_bit = {1 << at: key for at, key in enumerate(reversed(list(keys)))}
        self.full = (1 << len(keys)) - 1
        self.known = {}
        self.sure_tops = bid.bid_tops
        # For each tick of the run from which on something else can be free: the integer of the yard, and for each of
        # the runs that go on there the bit and what it holds.
        self.parts = []
        for begin in self._part_begins():
            base = ground.bases[place_of(ground.ticks, begin)]
            goers = [(bit, ground.stays[key][3]) for bit, key in self.keys_by_bit.items() if ground.end_of(key) > begin]
            if goers:
                self.parts.append((base, goers))
            else:
                self.sure_tops = self.sure_tops & bid.tops_at(base)

    def lets(self, some):
        """Whether a set lets the ask start."""
        if some not in self.known:
            tops = self.sure_tops
            for base, goers in self.parts:
                given = sum([held for bit, held in goers if bit & some])
                tops = tops & self.bid.tops_at(base + given)
            fits = self.bid.fits_of(tops)
            fits = fits - (fits & (self.ground.shut_mask(self.tick, self.end_tick) * self.bid.repeat))
            self.known[some] = len(self.bid.open_doors(tops, fits)) > 0
        return self.known[some]

    def greatest_from(self, some):
        """A set that has all of a set that does not let the ask start, does not do so either, and cannot have more."""
        found = some
        for bit in list(self.keys_by_bit):
            if not found & bit and not self.lets(found | bit):
                found = found | bit
        return found

    def keys_of(self, some):
        """The ascending keys of a set."""
        return tuple(sorted([key for bit, key in self.keys_by_bit.items() if bit & some]))

    def set_of(self, keys):
        """The set of some keys."""
        return sum([bit for bit, key in self.keys_by_bit.items() if key in keys])

    def ordered(self, costs):
        """All sets in the order of the triples (sum of the costs, number of runs, set), if each key has a cost."""
        values = [LOWEST]
        for bit, key in self.keys_by_bit.items():
            more = (costs[key] << COST_BIT) + (1 << COUNT_BIT) - bit
            values = values + [value + more for value in values]
        return [LOWEST - (value & LOWEST) for value in sorted(values)]

    def first_letting(self, costs):
        """The first set that lets the ask start, or None, and sets that do not, of which all sets ahead are parts."""
        if not self.lets(self.full):
            return None, [self.full]
        failing = []
        for some in self.ordered(costs):
            if not is_part_of(some, failing):
                if self.lets(some):
                    return some, failing
                failing.append(self.greatest_from(some))
        return None, failing

    def all_least(self):
        """All sets that let the ask start, and of which no proper part does, those with fewer runs first."""
        found, failing = [], []
        for some in self.ordered({key: 0 for key in self.all_keys}):
            if not any([least & some == least for least in found]) and not is_part_of(some, failing):
                if self.lets(some):
                    found.append(some)
                else:
                    failing.append(self.greatest_from(some))
        return [self.keys_of(some) for some in found]

    def ground_without(self, some):
        """The ground without the places of a set."""
        ground = self.ground
        for bit, key in self.keys_by_bit.items():
            if bit & some:
                ground = ground.without_stay(key)
        return ground

    def _part_begins(self):
        """The tick, and all later ones of the run from which on something else can be free."""
        ticks = self.ground.ticks
        found = [self.tick] + ticks[place_of(ticks, self.tick) + 1:]
        found.extend([self.ground.end_of(key) for key in self.all_keys])
        return sorted(set([begin for begin in found if begin < self.end_tick]))


def is_part_of(some, others):
    """Whether a set is a part of one of some others."""
    return any([some & other == some for other in others])
