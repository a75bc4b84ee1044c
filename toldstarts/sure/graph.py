"""All stands to which true lengths lead, and which ones come one tick later.

A stand has a number here, by the order in which it was found; that at tick 0 has the number 0. The enders of a stand
are the pairs (key, ran) of the runs that can end early one tick later. A set of enders is an integer: the bit with
the value 1 << i stands for the ender with the index i.
"""

from toldstarts.errors import TooMany

MOST_STANDS = 20000


class Graph:
    """The stands of a lineup, as far as they have been looked at."""

    def __init__(self, settler, keys):
        self.settler = settler
        self.stand_rows = []
        self.enders = []
        # For each stand the numbers of the next ones, by the sets of enders that have ended early.
        self.next_rows = []
        self.numbers_by_stand = {}
        self.is_explored = False
        self._number_of(settler.settled(((), (), keys)))

    def next_number(self, number, early):
        """The number of the next stand if a set of enders has ended early."""
        nexts = self.next_rows[number]
        if nexts[early] is None:
            gone = [key for at, (key, _) in enumerate(self.enders[number]) if early >> at & 1]
            runs, told, left = self.settler.settled(self.settler.aged(self.stand_rows[number]))
            stand = (runs, told, left)
            if gone:
                stand = self.settler.settled((tuple([run for run in runs if run[0] not in gone]), told, left))
            nexts[early] = self._number_of(stand)
        return nexts[early]

    def explore(self):
        """Look at all stands, if there are not too many."""
        number = 0
        while not self.is_explored:
            for early in range(len(self.next_rows[number])):
                self.next_number(number, early)
                if len(self.stand_rows) > MOST_STANDS:
                    raise TooMany(MOST_STANDS)
            number = number + 1
            self.is_explored = number == len(self.stand_rows)

    def waiting(self, number):
        """The keys of the jobs that wait in a stand, ascending."""
        _, told, left = self.stand_rows[number]
        return sorted([row[0] for row in told] + list(left))

    def runs_in(self, number):
        """For each run of a stand for how many ticks it has run."""
        return {key: ran for key, ran, _, _ in self.stand_rows[number][0]}

    def _number_of(self, stand):
        """The number of a stand, which it gets if it has none."""
        if stand not in self.numbers_by_stand:
            self.numbers_by_stand[stand] = len(self.stand_rows)
            self.stand_rows.append(stand)
            enders = [(key, ran) for key, ran, _, _ in stand[0] if ran + 1 < self.settler.bids[key][1]]
            self.enders.append(enders)
            self.next_rows.append([None] * (1 << len(enders)))
        return self.numbers_by_stand[stand]


def starts_in(graph, lengths):
    """The ticks at which the jobs begin whose true lengths are told by their keys."""
    number, tick = 0, 0
    starts = {key: 0 for key in graph.runs_in(0)}
    while len(starts) < len(lengths):
        early = sum([1 << at for at, (key, ran) in enumerate(graph.enders[number]) if ran + 1 == lengths[key]])
        number, tick = graph.next_number(number, early), tick + 1
        for key, ran in graph.runs_in(number).items():
            if ran == 0:
                starts[key] = tick
    return starts


def least_bounds(graph):
    """For each stand of an explored graph the least bounds of the jobs that wait in it, by their keys."""
    bounds = [None] * len(graph.stand_rows)
    for number in range(len(bounds)):
        _find_bounds(graph, bounds, number)
    return bounds


def lengths_reaching(graph, bounds, key, lengths):
    """True lengths with which a job that waits at tick 0 begins as late as its bound tells."""
    found, number = {one: lengths[one] for one in lengths}, 0
    while key in bounds[number]:
        left = bounds[number][key] - 1
        early = 0
        while bounds[graph.next_rows[number][early]].get(key, 0) != left:
            early = early + 1
        for at, (one, ran) in enumerate(graph.enders[number]):
            if early >> at & 1:
                found[one] = ran + 1
        number = graph.next_rows[number][early]
    return found


def _find_bounds(graph, bounds, number):
    """Find the bounds of a stand behind those of all that come later: no stand comes again while a job waits."""
    if bounds[number] is None:
        found = {key: 1 for key in graph.waiting(number)}
        if found:
            for later in graph.next_rows[number]:
                _find_bounds(graph, bounds, later)
                for key, bound in bounds[later].items():
                    found[key] = max(found[key], bound + 1)
        bounds[number] = found
