"""The areas that runs use."""

from toldstarts.rank.accounts import KEPT_PERIODS


def with_run_uses(inside, end):
    """The accounts of a house with what its runs use from the present tick up to an end."""
    now, cycle = inside.table.clock, inside.rules.cycle
    sizes = {}
    for number in inside.table.running:
        job = inside.comers[number]
        sizes[job.account] = sizes.get(job.account, 0) + job.size
    # Whatever is older than the kept periods is never seen.
    last = (end - 1) // cycle
    first = max(now // cycle, last - KEPT_PERIODS)
    used = inside.used
    for name, size in sizes.items():
        areas = {period: size * _ticks_in(period, cycle, now, end) for period in range(first, last + 1)}
        used = used.with_areas(name, areas)
    return used


def _ticks_in(period, cycle, begin, end):
    """How many ticks from begin up to end lie in a period."""
    return min(end, (period + 1) * cycle) - max(begin, period * cycle)
