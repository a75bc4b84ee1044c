"""Houses at work: jobs come and go, and are told their starts."""

from toldstarts.base.checks import is_between
from toldstarts.errors import InvalidDeed, UnknownName
from toldstarts.jobs.likes import fold_states
from toldstarts.plan.places import yard_of
from toldstarts.rank.accounts import accounts_with
from toldstarts.rank.scores import order_turns
from toldstarts.work.deeds import is_deed
from toldstarts.work.doing import done
from toldstarts.work.inside import new_inside
from toldstarts.work.rules import check_setting
from toldstarts.work.whys import reasons_of

MAX_OPEN = 60
MAX_NUMBERS = 1000
MAX_WAIT = 100000
MAX_SETTLINGS = 1000


class House:
    """A house at work."""

    def __init__(self, machines, tokens, doors, limits, weights, depth=5, fill=False, period=100, windows=()):
        setting = (machines, tokens, doors, limits, weights, depth, fill, period, windows)
        check_setting(setting)
        # No inside that a house has changes: a deed makes another one of it, so houses and logs can share it.
        self._inside = new_inside(setting)

    @property
    def setting(self):
        """The tuple of all nine arguments."""
        return self._inside.rules.all_settings

    @property
    def now(self):
        """The present tick."""
        return self._inside.table.clock

    @property
    def deeds(self):
        """How many deeds were done."""
        return self._inside.deeds_done

    @property
    def runs(self):
        """The numbers of the jobs that run, ascending."""
        return tuple(sorted(self._inside.table.running))

    @property
    def untold(self):
        """The numbers of the jobs that stand untold, ascending."""
        stays = self._inside.table.ground.stays
        return tuple([number for number in sorted(self._inside.bids) if number not in stays])

    @property
    def held(self):
        """The numbers of the jobs that are held, ascending."""
        return tuple(sorted(self._inside.held_numbers))

    @property
    def told(self):
        """The numbers of the told jobs, in told order."""
        return tuple(self._inside.table.told_keys)

    @property
    def told_starts(self):
        """The dict from the numbers of the told jobs to their starts."""
        table = self._inside.table
        return {number: table.start_of(number) for number in sorted(table.told_keys)}

    @property
    def is_settled(self):
        """Whether the last drawing together ended within its moves."""
        return self._inside.table.is_drawn

    @property
    def yard(self):
        """The yard of the board."""
        return yard_of(self._inside.table.ground)

    @property
    def rows(self):
        """The rows of like jobs."""
        return self._inside.like_rows

    @property
    def accounts(self):
        """The accounts with all uses."""
        return accounts_with(self._inside.used)

    def do(self, deed):
        """Do a deed; tell its events."""
        if not is_deed(deed):
            raise InvalidDeed("the value is no deed")
        made = self._inside.copied()
        events = done(made, deed)
        self._inside = made
        return events

    def twin(self):
        """An equal house that goes on by itself."""
        return house_with(self._inside)

    def row(self):
        """The numbers of the ready jobs, ranked."""
        return self._inside.row()

    def job(self, number):
        """The job with a number."""
        self._check_number(number)
        return self._inside.comers[number]

    def state(self, number):
        """The state of a job."""
        self._check_number(number)
        return self._inside.states[number]

    def stands(self, number):
        """How a job stands."""
        self._check_number(number)
        return self._inside.stands(number)

    def lines(self):
        """The state lines of how all jobs stand."""
        inside = self._inside
        return fold_states(inside.like_rows, {number: inside.stands(number) for number in inside.comers})

    def later_rows(self):
        """The turns of the row behind the present tick, without further uses."""
        inside = self._inside
        rules = inside.rules
        return order_turns(rules.score_weights, inside.entries(), self.accounts, inside.table.clock, rules.cycle)

    def earlier(self, number):
        """The earliest place to which a told job can come, or None."""
        self._check_told(number)
        return self._inside.table.earlier(number)

    def bars(self, number):
        """Bars that show the start of a told job, or None if it can come earlier."""
        self._check_told(number)
        return self._inside.table.bars(number)

    def why(self, number):
        """Why a job does not run."""
        self._check_number(number)
        return reasons_of(self._inside, number)

    def __contains__(self, x):
        return is_between(x, 1, len(self._inside.comers))

    def __len__(self):
        return len(self._inside.comers)

    def __eq__(self, other):
        return isinstance(other, House) and self._key() == other._key()

    def __str__(self):
        runs, told = len(self._inside.table.running), len(self._inside.table.told_keys)
        return f"house at {self.now}, {runs} runs, {told} told, {len(self.untold)} untold"

    def _key(self):
        """What is equal for equal houses."""
        inside = self._inside
        board = (self.yard, self.now, self.told, self.runs)
        jobs = (inside.comers, inside.states, self.held, self.untold)
        return (self.setting, self.deeds, jobs, inside.used.key(), board)

    def _check_number(self, number):
        """Refuse what is no number of a job."""
        if number not in self:
            raise UnknownName(number)

    def _check_told(self, number):
        """Refuse what is no number of a told job."""
        if number not in self or number not in self._inside.table.told_keys:
            raise UnknownName(number)


def house_with(inside):
    """The house with an inside that is surely right."""
    setting = inside.rules.all_settings
    made = House(*setting)
    made._inside = inside
    return made
