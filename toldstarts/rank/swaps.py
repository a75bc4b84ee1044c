"""How ranked entries change places as they grow older.

A row is a triple (number, came, fixed) of an entry, with the part of its score that stays the same. The
other part is the age, but at most the cap, times its weight. Of two rows the one that came first gains
nothing any longer on the other one, but loses its lead from its cap on. So each row is overtaken by
another one at most once, and the ranked rows change only where two stand side by side.
"""

from heapq import heappop, heappush


def score_at(row, tick, age, cap):
    """The score of a row at a tick."""
    return age * min(tick - row[1], cap) + row[2]


def rank(rows, tick, age, cap):
    """The numbers of the rows, ranked at a tick."""
    return tuple([number for _, number in sorted([(-score_at(row, tick, age, cap), row[0]) for row in rows])])


def turns_of(phases, age, cap):
    """Yield the pairs (turn, ranked numbers) of all turns behind the begin of the first phase.

    Each phase is a pair (begin, rows) and ends where the next one begins.
    """
    ends = [begin for begin, _ in phases[1:]] + [None]
    before = None
    for (begin, rows), end in zip(phases, ends):
        swaps = Swaps(rows, begin, age, cap)
        numbers = swaps.ranked_numbers()
        if before is not None and numbers != before:
            yield begin, numbers
        before = numbers
        while swaps.goes_on(end):
            tick = swaps.step()
            before = swaps.ranked_numbers()
            yield tick, before


class Swaps:
    """Ranked rows that overtake one another."""

    def __init__(self, rows, tick, age, cap):
        self.age_weight = age
        self.age_cap = cap
        self.rows_by_number = {row[0]: row for row in rows}
        self.ranking = list(rank(rows, tick, age, cap))
        self.standing = {number: at for at, number in enumerate(self.ranking)}
        self.queue = []
        for at in range(len(self.ranking)):
            self._foresee(at)

    def ranked_numbers(self):
        """The numbers as they are ranked now."""
        return tuple(self.ranking)

    def goes_on(self, end):
        """Whether a number overtakes another one ahead of an end, or ever if that is None."""
        return len(self.queue) > 0 and (end is None or self.queue[0][0] < end)

    def step(self):
        """Let all numbers overtake that do so at the next tick at which any does, and tell this tick."""
        tick = self.queue[0][0]
        while self.goes_on(tick + 1):
            _, ahead, behind = heappop(self.queue)
            at = self.standing[ahead]
            if self.ranking[at + 1:at + 2] == [behind]:
                self.ranking[at], self.ranking[at + 1] = behind, ahead
                self.standing[behind], self.standing[ahead] = at, at + 1
                self._foresee(at - 1)
                self._foresee(at + 1)
        return tick

    def _foresee(self, at):
        """Note when the number at a place is overtaken by the next one, if it ever is."""
        if not 0 <= at < len(self.ranking) - 1:
            return
        ahead, behind = self.ranking[at], self.ranking[at + 1]
        tick = self._overtaken(self.rows_by_number[ahead], self.rows_by_number[behind])
        if tick is not None:
            heappush(self.queue, (tick, ahead, behind))

    def _overtaken(self, ahead, behind):
        """The first tick at which a row is no longer ahead of another one, or None."""
        if ahead[1] >= behind[1] or self.age_weight == 0:
            return None
        # The lead in counted ticks, beyond which the row stays ahead; equal scores are ranked by numbers.
        bound = behind[2] - ahead[2] + (1 if behind[0] < ahead[0] else 0)
        lead = (bound - 1) // self.age_weight
        return behind[1] + self.age_cap - lead if lead >= 0 else None
