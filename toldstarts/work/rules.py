"""The settings of a house, and what follows from them alone."""

from toldstarts.base.amounts import check_amounts
from toldstarts.base.checks import is_ascending, is_between
from toldstarts.errors import InvalidHouse, InvalidJob, InvalidNumber
from toldstarts.house.machines import is_machine_name
from toldstarts.plan.asks import Bid
from toldstarts.plan.ground import new_ground
from toldstarts.plan.limits import check_doors, check_limits
from toldstarts.plan.places import check_machines
from toldstarts.plan.search import earliest_at_all
from toldstarts.plan.told import check_depth, check_fill
from toldstarts.rank.scores import check_weights
from toldstarts.room.rooms import MAX_PERIOD

MOST_TOKENS = 12
MOST_WINDOWS = 40


class Rules:
    """The nine settings of a house, which are surely right."""

    def __init__(self, setting):
        machines, tokens, doors, limits, weights, depth, fill, period, windows = setting
        places = {machine.name: at for at, machine in enumerate(machines)}
        turns = [(places[name], begin, length) for name, begin, length in windows]
        self.all_settings = setting
        self.house_doors = doors
        self.house_limits = limits
        self.score_weights = weights
        self.most_told = depth
        self.is_filling = fill
        self.cycle = period
        self.places_by_name = places
        self.first_ground = new_ground(machines, tokens + limits.amounts, period).with_turns(turns)

    def ask_of(self, job):
        """What a job asks, or None if its amounts of the house are too many."""
        try:
            return self.house_limits.ask(self.house_doors, job)
        except InvalidJob:
            return None

    def can_start(self, job, amounts):
        """Whether a job ever has a place in the yard of the settings, with some amounts more for the house."""
        asked = self.ask_of(job)
        if asked is None:
            return False
        ground = self.first_ground.with_stock(amounts)
        bid = Bid(ground.layout, ground.house_shifts, asked)
        return earliest_at_all(ground, bid, job.limit, 0) is not None


def check_setting(setting):
    """Refuse what are no nine settings of a house."""
    machines, tokens, doors, limits, weights, depth, fill, period, windows = setting
    check_machines(machines)
    check_amounts(tokens)
    check_doors(doors)
    check_limits(limits)
    if limits.accounts.newest >= 0:
        raise InvalidHouse("the accounts of the limits have uses")
    check_weights(weights)
    check_depth(depth)
    check_fill(fill)
    if not is_between(period, 1, MAX_PERIOD):
        raise InvalidNumber(period)
    if not _are_windows(windows, [machine.name for machine in machines], period):
        raise InvalidHouse("the windows are none of the machines")
    if len(tokens) > MOST_TOKENS:
        raise InvalidHouse("the tokens have too many kinds")
    kinds = [kind for amounts in [tokens] + [machine.amounts for machine in machines] for kind in amounts.kinds]
    if not all([kind.isalpha() for kind in kinds]):
        raise InvalidHouse("a kind is not letters alone")


def _are_windows(value, names, period):
    """Whether the value is an ascending tuple of few enough windows of machines with some names."""
    if not isinstance(value, tuple) or len(value) > MOST_WINDOWS:
        return False
    return all([_is_window(row, names, period) for row in value]) and is_ascending(value)


def _is_window(value, names, period):
    """Whether the value is a window of one of some machines."""
    if not isinstance(value, tuple) or len(value) != 3:
        return False
    name, begin, length = value
    if not is_machine_name(name) or name not in names:
        return False
    return is_between(begin, 0, period - 1) and is_between(length, 1, period)
