"""The settings of a house, and what follows from them alone."""

from toldstarts.base.amounts import check_amounts
from toldstarts.base.checks import is_ascending, is_between
from toldstarts.errors import InvalidHouse, InvalidJob, InvalidNumber
from toldstarts.plan.asks import Bid
from toldstarts.plan.ground import new_ground
from toldstarts.plan.limits import ask_of, check_doors, check_limits
from toldstarts.plan.places import check_machines
from toldstarts.plan.search import is_ever_free
from toldstarts.plan.told import check_depth, check_fill
from toldstarts.rank.scores import check_weights
from toldstarts.room.rooms import MAX_PERIOD

MOST_TOKENS = 12
MOST_WINDOWS = 40

MOST_KNOWN = 64


class Rules:
    """The nine settings of a house, which are surely right."""

    def __init__(self, setting):
        machines, tokens, doors, limits, weights, depth, fill, period, windows = setting
        places = {machine.name: at for at, machine in enumerate(machines)}
        turns = [(places[name], begin, length) for name, begin, length in windows]
        self.all_settings = setting
        self.house_doors = doors
        self.house_limits = limits
        self.score_weights = weights
        self.most_told = depth
        self.is_filling = fill
        self.cycle = period
        self.places_by_name = places
        ground = new_ground(machines, tokens + limits.amounts, period)
        self.first_ground = ground.with_turns(turns) if turns else ground
        # What was answered to jobs, by what the answer hangs on: many jobs that come are alike.
        self.known_answers = {}

    def answer(self, job):
        """The pair of the reason to refuse a job that comes, or None, and of its bid."""
        mark = (job.account, job.person, job.limit, job.doors)
        rows = self.known_answers.get(mark, ())
        for groups, tokens, found in rows:
            if groups == job.groups and tokens == job.tokens:
                return found
        if len(self.known_answers) >= MOST_KNOWN or len(rows) >= MOST_KNOWN:
            self.known_answers = {}
            rows = ()
        found = self.answer_beside(job, job, self.first_ground)
        self.known_answers[mark] = rows + ((job.groups, job.tokens, found),)
        return found

    def answer_beside(self, job, part, ground):
        """The same if a part, or None, is what comes of the job, and the settings make another ground."""
        kinds = [kind for _, _, some in job.groups for kind, _ in some.pairs] + list(job.tokens.kinds)
        odd = [kind for kind in kinds if not kind.isalpha()]
        if odd:
            return (("kinds", min(odd)), None)
        limits = self.house_limits
        if job.account not in limits.accounts:
            return (("account", job.account), None)
        doors = self.house_doors.usable(job)
        if not doors:
            return (("doors",), None)
        needs = limits.needs_at(job, doors)
        beyond = [(door, limits.too_great(pairs)) for door, pairs in zip(doors, needs)]
        if all([indices for _, indices in beyond]):
            return (("limits", tuple(beyond)), None)
        bid = None if part is None else _bid_in(ground, part, needs)
        return (("never",), None) if bid is None else (None, bid)


def _bid_in(ground, job, needs):
    """The bid of a job with its needs at each usable door, or None if there is no place for it from the tick 0 on."""
    try:
        asked = ask_of(job, needs)
    except InvalidJob:
        return None
    bid = Bid(ground.layout, ground.house_shifts, asked)
    return bid if is_ever_free(ground, bid, job.limit, 0) else None


def check_setting(setting):
    """Refuse what are no nine settings of a house."""
    machines, tokens, doors, limits, weights, depth, fill, period, windows = setting
    check_machines(machines)
    check_amounts(tokens)
    check_doors(doors)
    check_limits(limits)
    if limits.accounts.newest >= 0:
        raise InvalidHouse("the accounts of the limits have uses")
    check_weights(weights)
    check_depth(depth)
    check_fill(fill)
    if not is_between(period, 1, MAX_PERIOD):
        raise InvalidNumber(period)
    if not _are_windows(windows, [machine.name for machine in machines], period):
        raise InvalidHouse("the windows are none of the machines")
    if len(tokens) > MOST_TOKENS:
        raise InvalidHouse("the tokens have too many kinds")
    kinds = [kind for amounts in [tokens] + [machine.amounts for machine in machines] for kind in amounts.kinds]
    if not all([kind.isalpha() for kind in kinds]):
        raise InvalidHouse("a kind is not letters alone")


def _are_windows(value, names, period):
    """Whether the value is an ascending tuple of few enough windows of machines with some names."""
    if not isinstance(value, tuple) or len(value) > MOST_WINDOWS:
        return False
    return all([_is_window(row, names, period) for row in value]) and is_ascending(value)


def _is_window(value, names, period):
    """Whether the value is a window of one of some machines."""
    if not isinstance(value, tuple) or len(value) != 3:
        return False
    name, begin, length = value
    if not isinstance(name, str) or name not in names:
        return False
    return is_between(begin, 0, period - 1) and is_between(length, 1, period)
