"""What a house is made of, and how it settles."""

from toldstarts.base.checks import without_key
from toldstarts.base.ticks import MAX_TICK
from toldstarts.errors import TooMany
from toldstarts.plan.ground import are_surely_few
from toldstarts.plan.table import Table
from toldstarts.rank.accounts import areas_of
from toldstarts.rank.scores import ranked_surely
from toldstarts.wait.truths import is_true_in
from toldstarts.work.rules import Rules
from toldstarts.work.uses import with_run_uses

MOST_SETTLINGS = 1000


class Inside:
    """The jobs that have come, how they stand, the board, and the uses. The dicts in it never change.

    An inside changes only until it is passed on: a house does each deed with a copy.
    """

    def __init__(self, rules, table):
        self.rules = rules
        self.table = table
        self.deeds_done = 0
        # For each number the job, the tick at which it came, and its state.
        self.comers = {}
        self.arrivals = {}
        self.states = {}
        # For each job that is not over its bid, ascending; the jobs that are held; the ticks at which jobs have begun
        # that were not put back since; and the jobs that were ever put off.
        self.bids = {}
        self.held_numbers = {}
        self.begun_at = {}
        self.put_off = {}
        self.like_rows = ()
        self.used = areas_of(rules.house_limits.accounts)

    def copied(self):
        """The same once more, which goes on by itself."""
        made = Inside(self.rules, self.table.copied())
        made.deeds_done = self.deeds_done
        made.comers = self.comers
        made.arrivals = self.arrivals
        made.states = self.states
        made.bids = self.bids
        made.held_numbers = self.held_numbers
        made.begun_at = self.begun_at
        made.put_off = self.put_off
        made.like_rows = self.like_rows
        made.used = self.used
        return made

    def stands(self, number):
        """How a job stands."""
        if number in self.table.ground.stays:
            return "runs" if number in self.table.running else "told"
        return "untold" if number in self.bids else "over"

    def state_of(self, number):
        """The state of a job; those that have not come yet wait."""
        return self.states.get(number, "waiting")

    def is_true_now(self, formula):
        """Whether a formula over the ends of jobs is true."""
        return is_true_in(formula, self.states)

    def is_ready(self, number):
        """Whether a job waits to be told."""
        if number not in self.bids or number in self.table.ground.stays or number in self.held_numbers:
            return False
        after = self.comers[number].after
        return after is None or self.is_true_now(after)

    def entries(self):
        """The entries of the ready jobs, ascending."""
        found = []
        for number in [one for one in self.bids if one not in self.table.ground.stays]:
            if self.is_ready(number):
                job = self.comers[number]
                found.append((number, self.arrivals[number], job.size, job.grade, job.account))
        return tuple(found)

    def row(self):
        """The numbers of the ready jobs, ranked."""
        entries = self.entries()
        # One job alone need not be ranked.
        if len(entries) < 2:
            return tuple([entry[0] for entry in entries])
        now, weights = self.table.clock, self.rules.score_weights
        order = self.used.order_at(now // self.rules.cycle) if weights.place > 0 else ()
        return ranked_surely(weights, entries, now, order)

    def settle(self):
        """Settle at the present tick; tell the events."""
        found = self._settle_table(())
        while True:
            table = self.table
            # Where no told job moves and nobody can be told, the row has no effect.
            is_full = len(table.told_keys) >= table.most_told and not table.is_filling
            numbers = () if is_full and table.is_tight else self.row()
            if not numbers and self._is_at_rest():
                return found
            events = self._settle_table(numbers)
            found.extend(events)
            # Without a job that has begun the row has nobody more, and all in it have been looked at.
            if not events or self._is_at_rest() and not any([event[1] == "began" for event in events]):
                return found

    def wait(self, ticks):
        """Let time pass; tell the events."""
        end, many, found = self.table.clock + ticks, 0, []
        while self.table.clock < end:
            tick, many = self._next_settling(end), many + 1
            # The house comes to the tick ahead of settling there.
            if tick > MAX_TICK:
                raise TooMany(MAX_TICK)
            if many > MOST_SETTLINGS:
                raise TooMany(MOST_SETTLINGS)
            if self.table.running:
                self.used = with_run_uses(self, tick)
            self.table.clock = tick
            found.extend(self.settle())
        return found

    def end_run(self, number, state):
        """Let a run, or a job that waits, be over; tell the event."""
        if number in self.table.ground.stays:
            self.table.end_early(number)
        return self._be_over(number, state)

    def put_back(self, numbers):
        """Let runs that have lost their places stand untold; tell the events."""
        for number in numbers:
            self.begun_at = without_key(self.begun_at, number)
        return [(self.table.clock, "back", number) for number in numbers]

    def run_at(self, number, place):
        """Let a job have begun; tell the event."""
        self.states = {**self.states, number: "begun"}
        self.begun_at = {**self.begun_at, number: place[0]}
        return (self.table.clock, "began", number, place)

    def _is_at_rest(self):
        """Whether no told job can move, and none need be looked at."""
        return self.table.is_tight and are_surely_few(self.table.ground, self.table.clock)

    def _settle_table(self, numbers):
        """Settle the board with some jobs that wait; tell the events but those of jobs that never start."""
        rows = [(number, self.bids[number], self.comers[number].limit) for number in numbers]
        found = []
        for event in self.table.settle(self.table.clock, rows):
            word, number = event[0], event[1]
            if word == "ended":
                found.append(self._be_over(number, "late"))
            elif word == "began":
                found.append(self.run_at(number, event[2]))
            elif word != "never":
                found.append((self.table.clock,) + event)
        return found

    def _be_over(self, number, state):
        """Let a job that is no longer on the board be over; tell the event."""
        self.states = {**self.states, number: state}
        self.bids = without_key(self.bids, number)
        if number in self.held_numbers:
            self.held_numbers = without_key(self.held_numbers, number)
        return (self.table.clock, "ended", number, state)

    def _next_settling(self, end):
        """The next tick up to an end at which a run, a shut span or a window ends or a told job starts, or this end."""
        now, ground = self.table.clock, self.table.ground
        ticks = [end] + [tick for _, _, tick in ground.span_rows if tick is not None and tick > now]
        change = self.table.next_change()
        if change is not None:
            ticks.append(change)
        ticks.extend([ground.next_turn_end(begin, length, now) for _, begin, length in ground.turn_rows])
        return min(ticks)


def new_inside(setting):
    """What a house with a setting that is surely right is made of, ahead of all deeds."""
    rules = Rules(setting)
    return Inside(rules, Table(rules.first_ground, rules.most_told, rules.is_filling))
