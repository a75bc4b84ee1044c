"""What windows hold in each period of ticks.

Numbers are packed here, as in the fields of a room. A piece is a triple (first, stop, free): the same is
free from first up to stop.
"""

from toldstarts.base.checks import place_of


class Pattern:
    """What windows hold from each of some ascending phases of a period on up to the next one; the first is 0."""

    def __init__(self, fields, cycle, phases, holds):
        self.fields = fields
        self.cycle = cycle
        self.phases = phases
        self.phase_ends = phases[1:] + [cycle]
        self.holds = holds
        self.most_held = self.least_held = holds[0]
        for hold in holds[1:]:
            self.most_held = fields.greater(self.most_held, hold)
            self.least_held = fields.lesser(self.least_held, hold)
        befores = holds[-1:] + holds[:-1]
        self.changes = [(phase, hold) for phase, hold, before in zip(phases, holds, befores) if hold != before]
        self.change_phases = [phase for phase, _ in self.changes]

    def with_window(self, begin, length, held):
        """The pattern with one window more, or with one less if the packed amounts are below 0."""
        low = begin % self.cycle
        phases, holds = [], []
        for phase in sorted(set(self.phases + [low, (low + length) % self.cycle])):
            hold = self.held_at(phase)
            if (phase - low) % self.cycle < length:
                hold = hold + held
            if not holds or hold != holds[-1]:
                phases.append(phase)
                holds.append(hold)
        return Pattern(self.fields, self.cycle, phases, holds)

    def held_at(self, tick):
        """What is held at a tick."""
        if len(self.holds) == 1:
            return self.holds[0]
        return self.holds[place_of(self.phases, tick % self.cycle)]

    def changes_up_to(self, tick):
        """At how many ticks, from 0 up to and including one, another number is held than one tick ahead."""
        if not self.changes:
            return 0
        turns, phase = divmod(tick, self.cycle)
        at = place_of(self.change_phases, phase)
        return turns * len(self.changes) + at + (1 if self.change_phases[at] <= phase else 0)

    def pieces(self, first, stop, base):
        """The pieces from one tick up to another beside a base, but for one period at most.

        What is free later was free before, as long as the base is the same.
        """
        if len(self.holds) == 1:
            return [(first, stop, base - self.holds[0])]
        last = min(stop, first + self.cycle)
        at = place_of(self.phases, first % self.cycle)
        turn = first - first % self.cycle
        found, low = [], first
        while low < last:
            high = min(last, turn + self.phase_ends[at])
            found.append((low, high, base - self.holds[at]))
            low, at = high, at + 1
            if at == len(self.phases):
                at, turn = 0, turn + self.cycle
        return found
