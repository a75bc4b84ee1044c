"""Runs that give way to a job of a higher grade."""

from toldstarts.base.checks import is_ascending, is_between, is_same, is_whole
from toldstarts.base.ticks import check_tick
from toldstarts.errors import InvalidJob, InvalidNumber, TooMany, UnknownName
from toldstarts.jobs.jobs import MAX_GRADE
from toldstarts.plan.asks import Bid, is_ask, is_key, is_length, members_of
from toldstarts.plan.bars import bars_from, is_bars_from
from toldstarts.plan.giving import Letting
from toldstarts.plan.ground import check_looked
from toldstarts.plan.places import check_yard, ground_of

MAX_CANDIDATES = 10
MAX_RUNS = 200


def taking_cost(yard, tick, key):
    """The cost of a run at a tick."""
    check_yard(yard)
    check_tick(tick)
    ground = ground_of(yard)
    if not is_key(key) or not _runs_at(ground, key, tick):
        raise UnknownName(key)
    return _cost(ground, tick, key)


def candidates(yard, tick, runs, grade):
    """The keys of the candidates for a grade."""
    check_yard(yard)
    check_tick(tick)
    ground = ground_of(yard)
    _check_runs(ground, tick, runs)
    _check_grade(grade)
    return _candidates(ground, tick, runs, grade)


def least_taken(yard, ask, length, tick, runs, grade):
    """The least set of candidates that lets the ask start, or None."""
    letting = _letting(yard, ask, length, tick, runs, grade)
    some, _ = letting.first_letting(_costs(letting, tick))
    return None if some is None else letting.keys_of(some)


def taking_paper(yard, ask, length, tick, runs, grade):
    """The least set, or None, with bars for enough sets that do not let the ask start."""
    letting = _letting(yard, ask, length, tick, runs, grade)
    some, failing = letting.first_letting(_costs(letting, tick))
    rows = []
    for other in failing:
        ground = letting.ground_without(other)
        check_looked(ground, tick)
        rows.append((letting.keys_of(other), bars_from(ground, ask, length, tick)))
    return (None if some is None else letting.keys_of(some), tuple(sorted(rows)))


def is_taking_paper(yard, ask, length, tick, runs, grade, value):
    """Whether the value is a taking paper."""
    letting = _letting(yard, ask, length, tick, runs, grade)
    if not isinstance(value, tuple) or len(value) != 2 or not isinstance(value[1], tuple):
        return False
    answer, rows = value
    if answer is not None and not (_is_set(letting, answer) and letting.lets(letting.set_of(answer))):
        return False
    if not all([_is_paper_row(row, letting) for row in rows]) or not is_ascending([row[0] for row in rows]):
        return False
    for some, bars in rows:
        if not bars or not is_bars_from(letting.ground_without(letting.set_of(some)), letting.bid, length, tick, bars):
            return False
    covered = _parts_of([letting.set_of(some) for some, _ in rows], letting.full)
    for some in letting.ordered(_costs(letting, tick)):
        if answer is not None and some == letting.set_of(answer):
            return True
        if some not in covered:
            return False
    return True


def ending_sets(yard, ask, length, tick, runs):
    """The least sets of runs whose ends would let the ask start."""
    check_yard(yard)
    _check_run_and_tick(ask, length, tick)
    ground = ground_of(yard)
    _check_runs(ground, tick, runs)
    if len(runs) > MAX_CANDIDATES:
        raise TooMany(MAX_CANDIDATES)
    bid = Bid(ground.layout, ground.house_shifts, ask)
    return tuple(Letting(ground, bid, length, tick, [key for key, _ in runs]).all_least())


def is_ending_sets(yard, ask, length, tick, runs, value):
    """Whether the value is the tuple of these sets."""
    return is_same(value, ending_sets(yard, ask, length, tick, runs))


def _letting(yard, ask, length, tick, runs, grade):
    """What the candidates for a grade let start."""
    check_yard(yard)
    _check_run_and_tick(ask, length, tick)
    ground = ground_of(yard)
    _check_runs(ground, tick, runs)
    _check_grade(grade)
    bid = Bid(ground.layout, ground.house_shifts, ask)
    return Letting(ground, bid, length, tick, _candidates(ground, tick, runs, grade))


def _candidates(ground, tick, runs, grade):
    """The keys of the candidates for a grade, ascending."""
    rows = sorted([(own, _cost(ground, tick, key), key) for key, own in runs if own < grade])
    return tuple(sorted([key for _, _, key in rows[:MAX_CANDIDATES]]))


def _costs(letting, tick):
    """The costs of the candidates."""
    return {key: _cost(letting.ground, tick, key) for key in letting.all_keys}


def _cost(ground, tick, key):
    """The cost of what surely is a run."""
    start, _, choice = ground.stays[key][0]
    return (tick - start + 1) * max(1, len(members_of(choice)))


def _runs_at(ground, key, tick):
    """Whether a key has a place whose span contains a tick."""
    return key in ground.stays and ground.stays[key][0][0] <= tick < ground.end_of(key)


def _is_set(letting, value):
    """Whether the value is a set of candidates."""
    if not isinstance(value, tuple) or not all([is_whole(key) for key in value]) or not is_ascending(value):
        return False
    return all([key in letting.all_keys for key in value])


def _is_paper_row(value, letting):
    """Whether the value is a pair of a set of candidates, and of what can be bars."""
    return isinstance(value, tuple) and len(value) == 2 and _is_set(letting, value[0]) and isinstance(value[1], tuple)


def _parts_of(sets, full):
    """All parts of some sets, as keys of a dict."""
    found = {some: True for some in sets}
    # A part of a set lacks one member of a greater part, which comes first here.
    for some in reversed(range(full + 1)):
        bit = 1
        while bit <= full and some not in found:
            if some | bit != some and some | bit in found:
                found[some] = True
            bit = 2 * bit
    return found


def _check_run_and_tick(ask, length, tick):
    """Refuse what is no ask, no length, or no tick."""
    if not is_ask(ask):
        raise InvalidJob("the value is no ask")
    if not is_length(length):
        raise InvalidNumber(length)
    check_tick(tick)


def _check_runs(ground, tick, value):
    """Refuse what are no runs at a tick."""
    if not isinstance(value, tuple) or len(value) > MAX_RUNS or not all([_is_run(row) for row in value]):
        raise InvalidJob("the value is no tuple of few enough pairs of a key and a grade")
    if not is_ascending([key for key, _ in value]) or not all([_runs_at(ground, key, tick) for key, _ in value]):
        raise InvalidJob("the keys are not ascending, or have no places at the tick")


def _is_run(value):
    """Whether the value is a pair of a key and a grade."""
    return isinstance(value, tuple) and len(value) == 2 and is_key(value[0]) and is_between(value[1], 0, MAX_GRADE)


def _check_grade(value):
    """Refuse what is no grade."""
    if not is_between(value, 0, MAX_GRADE):
        raise InvalidNumber(value)
