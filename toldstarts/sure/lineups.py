"""Lineups: jobs that all wait at tick 0, and the latest starts that they have over all true lengths."""

from toldstarts.base.checks import is_ascending, is_between, is_same, is_whole
from toldstarts.errors import InvalidHouse, InvalidJob, InvalidPaper, Refused, TooMany, UnknownName
from toldstarts.plan.asks import Bid
from toldstarts.plan.places import check_yard, ground_of
from toldstarts.plan.search import earliest_at_all
from toldstarts.plan.told import check_depth, check_fill, is_waiting_row
from toldstarts.sure.graph import Graph, least_bounds, lengths_reaching, starts_in
from toldstarts.sure.scenes import Settler
from toldstarts.sure.shorter import first_put_off

MAX_JOBS = 6
MAX_LENGTH = 6
MAX_YARD = 5
MAX_STANDS = 20000
MAX_ROWS = 5000


class Lineup:
    """A yard, some jobs, a depth, and whether the board fills."""

    def __init__(self, yard, jobs, *, depth=5, fill=False):
        _check_bare(yard)
        if not _are_jobs(jobs):
            raise InvalidJob("the value is no tuple of few enough short jobs with unlike keys")
        check_depth(depth)
        check_fill(fill)
        ground = ground_of(yard)
        rows = [(key, Bid(ground.layout, ground.house_shifts, ask), length) for key, ask, length in jobs]
        for key, bid, length in rows:
            if earliest_at_all(ground, bid, length, 0) is None:
                raise Refused(("never", key))
        self._yard = yard
        self._jobs = jobs
        self._depth = depth
        self._fill = fill
        self._graph = Graph(Settler(ground, rows, depth, fill), tuple([key for key, _, _ in rows]))
        self._bounds = None

    @property
    def yard(self):
        """The yard."""
        return self._yard

    @property
    def jobs(self):
        """The triples (key, ask, length) of the jobs."""
        return self._jobs

    @property
    def depth(self):
        """How many jobs are told at most."""
        return self._depth

    @property
    def fill(self):
        """Whether jobs that can begin at once do so."""
        return self._fill

    @property
    def stand(self):
        """The stand at tick 0."""
        return self._graph.stand_rows[0]

    def next_stand(self, stand, early):
        """The next stand if the runs with some keys have ended early."""
        graph = self._graph
        graph.explore()
        number = graph.numbers_by_stand.get(stand) if _is_plain(stand) else None
        if number is None:
            raise InvalidPaper("the value is no stand to which true lengths lead")
        keys = [key for key, _ in graph.enders[number]]
        if not isinstance(early, tuple) or not all([is_whole(key) and key in keys for key in early]):
            raise InvalidPaper("the value is no tuple of keys of runs that can end early")
        if not is_ascending(early):
            raise InvalidPaper("the keys are not ascending")
        return graph.stand_rows[graph.next_number(number, sum([1 << keys.index(key) for key in early]))]

    def __len__(self):
        return len(self._jobs)

    def __eq__(self, other):
        return (isinstance(other, Lineup) and self._yard == other._yard and self._jobs == other._jobs
                and self._depth == other._depth and self._fill == other._fill)

    def __str__(self):
        words = ", fills" if self._fill else ""
        return f"lineup of {len(self._jobs)} jobs, depth {self._depth}{words}"

    def all_bounds(self):
        """For each stand the least bounds of the jobs that wait in it."""
        if self._bounds is None:
            self._graph.explore()
            self._bounds = least_bounds(self._graph)
        return self._bounds

    def graph(self):
        """The graph of the stands, as far as it has been looked at."""
        return self._graph


def starts_by(lineup, lengths):
    """The ticks at which the jobs begin with some true lengths."""
    _check_lineup(lineup)
    if not _are_true_lengths(lineup, lengths):
        raise InvalidPaper("the value is no tuple of true lengths")
    return _starts(lineup, lengths)


def latest_starts(lineup):
    """The latest starts of the jobs over all true lengths."""
    _check_lineup(lineup)
    first = lineup.all_bounds()[0]
    return {key: first.get(key, 0) for key in sorted([key for key, _, _ in lineup.jobs])}


def lengths_to(lineup, key):
    """True lengths with which a job begins at its latest start."""
    _check_key(lineup, key)
    lengths = {one: length for one, _, length in lineup.jobs}
    found = lengths_reaching(lineup.graph(), lineup.all_bounds(), key, lengths)
    return tuple([found[one] for one, _, _ in lineup.jobs])


def is_lengths_to(lineup, key, value):
    """Whether the value is a tuple of true lengths with which a job begins at its latest start."""
    _check_key(lineup, key)
    latest = lineup.all_bounds()[0].get(key, 0)
    return _are_true_lengths(lineup, value) and _starts(lineup, value)[key] == latest


def bound_table(lineup):
    """The bound table with the least bounds and without further keys."""
    _check_lineup(lineup)
    bounds, stands = lineup.all_bounds(), lineup.graph().stand_rows
    table = {stand: _pairs_of(found) for stand, found in zip(stands, bounds)}
    return {stand: table[stand] for stand in sorted(table)}


def is_bound_table(lineup, value):
    """Whether the value is a bound table."""
    _check_lineup(lineup)
    graph = lineup.graph()
    graph.explore()
    if not isinstance(value, dict):
        return False
    bounds = [None] * len(graph.stand_rows)
    for stand, pairs in value.items():
        number = graph.numbers_by_stand.get(stand)
        # A key that is equal to a stand can have True for a 1: then it is none.
        if number is not None and is_same(stand, graph.stand_rows[number]):
            if not _are_bounds(pairs, graph.waiting(number)):
                return False
            bounds[number] = dict(pairs)
    if any([found is None for found in bounds]):
        return False
    return all([_are_above(bounds[number], [bounds[later] for later in nexts])
                for number, nexts in enumerate(graph.next_rows)])


def puts_off(lineup):
    """Two tuples of true lengths of which the second one has one lesser length, and lets a job begin later; or None."""
    _check_lineup(lineup)
    many = 1
    for _, _, length in lineup.jobs:
        many = many * length
    if many > MAX_ROWS:
        raise TooMany(MAX_ROWS)
    return first_put_off(lineup.graph(), [(key, length) for key, _, length in lineup.jobs])


def is_puts_off(lineup, value):
    """Whether the value is such a pair."""
    _check_lineup(lineup)
    if not isinstance(value, tuple) or len(value) != 2 or not all([_are_true_lengths(lineup, row) for row in value]):
        return False
    differing = [(one, other) for one, other in zip(value[0], value[1]) if one != other]
    if len(differing) != 1 or differing[0][0] < differing[0][1]:
        return False
    ahead, behind = _starts(lineup, value[0]), _starts(lineup, value[1])
    return any([ahead[key] < behind[key] for key in ahead])


def _starts(lineup, lengths):
    """The ticks at which the jobs begin with what surely are true lengths, by ascending keys."""
    starts = starts_in(lineup.graph(), {key: length for (key, _, _), length in zip(lineup.jobs, lengths)})
    return {key: starts[key] for key in sorted(starts)}


def _check_lineup(value):
    """Refuse what is no lineup."""
    if not isinstance(value, Lineup):
        raise InvalidHouse("the value is no object of Lineup")


def _check_key(lineup, key):
    """Refuse what is no lineup, and what is the key of none of its jobs."""
    _check_lineup(lineup)
    if not is_whole(key) or key not in [one for one, _, _ in lineup.jobs]:
        raise UnknownName(key)


def _check_bare(yard):
    """Refuse what is no small yard in which nothing is placed or shut."""
    check_yard(yard)
    if len(yard.machines) > MAX_YARD or yard.places or yard.shut_spans or yard.windows:
        raise InvalidHouse("the yard has too many machines, or is not empty")


def _are_jobs(value):
    """Whether the value is a tuple of few enough short jobs with unlike keys."""
    if not isinstance(value, tuple) or not 1 <= len(value) <= MAX_JOBS:
        return False
    if not all([is_waiting_row(row) and row[2] <= MAX_LENGTH for row in value]):
        return False
    return len(set([row[0] for row in value])) == len(value)


def _are_true_lengths(lineup, value):
    """Whether the value is a tuple of true lengths."""
    if not isinstance(value, tuple) or len(value) != len(lineup.jobs):
        return False
    return all([is_between(one, 1, length) for one, (_, _, length) in zip(value, lineup.jobs)])


def _is_plain(value):
    """Whether the value has only integers in tuples in tuples."""
    if isinstance(value, tuple):
        return all([_is_plain(part) for part in value])
    return is_whole(value)


def _pairs_of(bounds):
    """The pairs of bounds, ascending."""
    return tuple([(key, bounds[key]) for key in sorted(bounds)])


def _are_bounds(value, keys):
    """Whether the value has one bound of at least 1 for each of some ascending keys."""
    if not isinstance(value, tuple) or len(value) != len(keys):
        return False
    for pair, key in zip(value, keys):
        if not isinstance(pair, tuple) or len(pair) != 2 or not is_same(pair[0], key):
            return False
        if not is_whole(pair[1]) or pair[1] < 1:
            return False
    return True


def _are_above(bounds, laters):
    """Whether bounds are above those of the same jobs in all of some next stands."""
    return all([bounds[key] > bound for later in laters for key, bound in later.items()])
