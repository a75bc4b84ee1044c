"""The areas that runs use."""

from toldstarts.rank.accounts import KEPT_PERIODS


def with_run_uses(inside, end):
    """The areas of the accounts of a house with what its runs use from the present tick up to an end."""
    now, cycle = inside.table.clock, inside.rules.cycle
    sizes = {}
    for number in inside.table.running:
        job = inside.comers[number]
        sizes[job.account] = sizes.get(job.account, 0) + job.size
    # Whatever is older than the kept periods is never seen.
    last = (end - 1) // cycle
    first = max(now // cycle, last - KEPT_PERIODS)
    ticks = {period: _ticks_in(period, cycle, now, end) for period in range(first, last + 1)}
    more = {}
    for name, size in sizes.items():
        more[name] = {period: size * ticks[period] for period in ticks}
    return inside.used.with_more(more)


def _ticks_in(period, cycle, begin, end):
    """How many ticks from begin up to end lie in a period."""
    return min(end, (period + 1) * cycle) - max(begin, period * cycle)
