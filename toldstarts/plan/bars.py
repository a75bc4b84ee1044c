"""Bars, which show that no start of some ticks is good: how they are made, and how they are judged.

A lack is a tuple (machine, group, first, last, kind), as the document tells it. A span here is a pair (first, last)
of ticks in all of which too little is free; ENDLESS stands for a last one that is none.
"""

from toldstarts.base.checks import is_ascending, is_between, is_whole, place_of
from toldstarts.house.formulas import is_true
from toldstarts.house.slack import members_of, short_part
from toldstarts.plan.asks import MAX_START
from toldstarts.plan.layout import number_in
from toldstarts.plan.search import place_at

ENDLESS = 10 ** 61
LAST_TOLD = 10 ** 10
SHUT = ""


class Spans:
    """The spans in which too little is free on machines and in the house, and those in which machines are shut."""

    def __init__(self, ground):
        self.ground = ground
        self.shutters = [ground.shutter(at) for at in range(len(ground.layout.crew))]
        self.known = {}

    def house_span(self, kind, number, begin, end):
        """The last span with too little of a kind in the house that meets the ticks from begin up to end, or None."""
        return _last_meeting(self._spans_of(self.ground.house_shifts.get(kind), number), begin, end)

    def machine_span(self, machine, kind, number, begin, end):
        """Such a span of a machine."""
        return _last_meeting(self._spans_of(self.ground.layout.shifts[machine].get(kind), number), begin, end)

    def shut_span(self, machine, begin, end):
        """The last span of ticks that meets those from begin up to end, and in which a machine is shut; or None."""
        shutter = self.shutters[machine]
        first = shutter.last_in(begin, end)
        if first is None:
            return None
        reach = shutter.reach(first)
        return (first, ENDLESS if reach is None else reach - 1)

    def _spans_of(self, shift, number):
        """The first and the last ticks of all spans in which a field has less than a number, behind a span of none."""
        if (shift, number) not in self.known:
            self.known[(shift, number)] = _spans_below(self.ground, shift, number)
        return self.known[(shift, number)]


class Maker:
    """Makes bars for an ask and a length."""

    def __init__(self, ground, asked, length):
        self.spans = Spans(ground)
        self.asked = asked
        self.run_length = length
        self.crew = ground.layout.crew
        # For each want and each machine the groups whose formulas hold for it.
        self.holding = [_groups_of_machines(groups, self.crew) for groups, _ in asked]

    def row_at(self, begin, horizon):
        """The row of bars that begins at a tick and reaches as far as it can, or None if a place fits there."""
        reasons, last = [], horizon - 1
        for (groups, amounts), holding in zip(self.asked, self.holding):
            found = self._house_reason(amounts, begin)
            if found is None:
                found = self._groups_reason(groups, holding, begin)
            if found is None:
                return None
            last = min(last, found[0])
            reasons.append(found[1])
        return (begin, last + 1, tuple(reasons))

    def _house_reason(self, amounts, begin):
        """The pair of the last tick and the reason that too little is free in the house, or None."""
        best = None
        for kind, number in amounts.pairs:
            span = self.spans.house_span(kind, number, begin, begin + self.run_length)
            if span is not None and (best is None or span[1] > best[0]):
                best = (span[1], ("short", kind, span[0], min(span[1], LAST_TOLD)))
        return best

    def _groups_reason(self, groups, holding, begin):
        """The pair of the last tick and the reason that there are too few machines for some groups, or None."""
        counts = [count for count, _, _ in groups]
        lacks = [{group: self._last_lack(at, group, groups[group][2], begin) for group in holding[at]}
                 for at in range(len(self.crew))]
        fits = [sum([1 << group for group, lack in row.items() if lack is None]) for row in lacks]
        part = short_part(counts, fits)
        if part is None:
            return None
        indices = members_of(part)
        wanted = sum([counts[group] for group in indices])
        out = []
        for row, fit in zip(lacks, fits):
            if not fit & part:
                rows = [row[group] for group in indices if group in row]
                if rows:
                    out.append((min([lack[3] for lack in rows]), rows))
        # Some machines can be spared: those that would end the bars first.
        spared = wanted - 1 - len([fit for fit in fits if fit & part])
        kept = sorted(out)[spared:]
        found = [lack[:3] + (min(lack[3], LAST_TOLD),) + lack[4:] for _, rows in kept for lack in rows]
        return (min([ENDLESS] + [last for last, _ in kept]), ("groups", indices, tuple(sorted(found))))

    def _last_lack(self, at, group, amounts, begin):
        """The lack of a machine for a group that ends last, or None."""
        end = begin + self.run_length
        spans = [(self.spans.machine_span(at, kind, number, begin, end), kind) for kind, number in amounts.pairs]
        spans.append((self.spans.shut_span(at, begin, end), SHUT))
        lacks = [(span[1], span[0], kind) for span, kind in spans if span is not None]
        if not lacks:
            return None
        last, first, kind = max(lacks)
        return (at, group, first, last, kind)


class Judge:
    """Judges bars for an ask and a length."""

    def __init__(self, ground, asked, length):
        self.spans = Spans(ground)
        self.asked = asked
        self.run_length = length
        self.crew = ground.layout.crew

    def is_row(self, value, begin):
        """Whether the value is a row that begins at a tick, and all reasons are right."""
        if not isinstance(value, tuple) or len(value) != 3:
            return False
        low, end, reasons = value
        if not is_whole(low) or low != begin or not is_whole(end) or not begin < end:
            return False
        if not isinstance(reasons, tuple) or len(reasons) != len(self.asked):
            return False
        return all([self._is_reason(reason, want, begin, end) for reason, want in zip(reasons, self.asked)])

    def _is_reason(self, value, want, begin, end):
        """Whether the value is a reason why a want fits at no start from begin up to end."""
        if not isinstance(value, tuple) or len(value) not in (3, 4):
            return False
        if len(value) == 4:
            return value[0] == "short" and self._is_short(value, want[1], begin, end)
        return value[0] == "groups" and self._are_few(value, want[0], begin, end)

    def _is_short(self, value, amounts, begin, end):
        """Whether too little of a kind is free in the house in the ticks that a reason names."""
        _, kind, first, last = value
        if kind not in amounts or not self._reaches(first, last, begin, end):
            return False
        return _is_in(self.spans.house_span(kind, amounts[kind], first, first + 1), last)

    def _are_few(self, value, groups, begin, end):
        """Whether the lacks of a reason leave fewer machines than some groups want."""
        _, indices, lacks = value
        if not isinstance(indices, tuple) or not isinstance(lacks, tuple) or len(indices) == 0:
            return False
        if not all([is_between(group, 0, len(groups) - 1) for group in indices]) or not is_ascending(indices):
            return False
        if not all([self._is_lack(lack, groups, begin, end) for lack in lacks]) or not is_ascending(lacks):
            return False
        told = {(machine, group): True for machine, group, _, _, _ in lacks}
        left = 0
        for at, machine in enumerate(self.crew):
            missing = [group for group in indices if (at, group) not in told]
            if any([is_true(groups[group][1], machine.marks) for group in missing]):
                left = left + 1
        return left < sum([groups[group][0] for group in indices])

    def _is_lack(self, value, groups, begin, end):
        """Whether the value is a lack that is true."""
        if not isinstance(value, tuple) or len(value) != 5:
            return False
        at, group, first, last, kind = value
        if not is_between(at, 0, len(self.crew) - 1) or not is_between(group, 0, len(groups) - 1):
            return False
        if not isinstance(kind, str) or not self._reaches(first, last, begin, end):
            return False
        if kind == SHUT:
            reach = self.spans.shutters[at].reach(first)
            return reach is None or reach > last
        amounts = groups[group][2]
        return kind in amounts and _is_in(self.spans.machine_span(at, kind, amounts[kind], first, first + 1), last)

    def _reaches(self, first, last, begin, end):
        """Whether each run that begins from begin up to end has one of the ticks from first to last."""
        if not is_whole(first) or not is_whole(last):
            return False
        return 0 <= first <= last and first < begin + self.run_length and last >= end - 1


def _groups_of_machines(groups, crew):
    """For each machine the indices of the groups whose formulas hold for it."""
    return [[group for group, (_, formula, _) in enumerate(groups) if is_true(formula, machine.marks)]
            for machine in crew]


def bars_from(ground, asked, length, since):
    """Bars from a tick that show the start of the earliest place, or that there is never one."""
    maker, horizon = Maker(ground, asked, length), ground.horizon(since)
    rows, begin = [], since
    while begin < horizon:
        row = maker.row_at(begin, horizon)
        if row is None:
            break
        rows.append(row)
        begin = row[1]
    return tuple(rows)


def is_bars_from(ground, bid, length, since, value):
    """Whether the value is bars from a tick that show a start, or that there is never one."""
    if not isinstance(value, tuple):
        return False
    judge, end = Judge(ground, bid.asked, length), since
    for row in value:
        if not judge.is_row(row, end):
            return False
        end = row[1]
    if end >= ground.horizon(since):
        return True
    return end <= MAX_START and place_at(ground, bid, length, end) is not None


def _spans_below(ground, shift, number):
    """The first and the last ticks of the spans in which a field, or None, has less than a number."""
    firsts, lasts = [-1], [-1]
    if shift is None:
        return firsts + [0], lasts + [ENDLESS]
    is_open = False
    for tick, base in zip(ground.ticks, ground.bases):
        is_below = number_in(base, shift) < number
        if is_below and not is_open:
            firsts.append(tick)
            lasts.append(ENDLESS)
        if is_open and not is_below:
            lasts[-1] = tick - 1
        is_open = is_below
    return firsts, lasts


def _last_meeting(rows, begin, end):
    """The last one of some spans that meets the ticks from begin up to end, or None."""
    firsts, lasts = rows
    at = place_of(firsts, end - 1)
    return (firsts[at], lasts[at]) if lasts[at] >= begin else None


def _is_in(span, last):
    """Whether there is a span that reaches to a last tick."""
    return span is not None and last <= span[1]
