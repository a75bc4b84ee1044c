"""Accounts in a tree of shares, their uses, and the fair order that follows from these."""

from toldstarts.base.checks import is_between
from toldstarts.errors import InvalidHouse, InvalidNumber, UnknownName
from toldstarts.rank.tree import ROOT, Tree, are_account_rows

MAX_ACCOUNTS = 40
MAX_LEVELS = 8
KEPT_PERIODS = 60

MAX_USED_PERIOD = 10 ** 9
MAX_AREA = 10 ** 18
MAX_ASKED_PERIOD = 2 * 10 ** 9
ONE_ROW = (("none", "", 1),)


class Accounts:
    """Accounts, with the areas that they have used in some periods."""

    def __init__(self, rows):
        if not are_account_rows(rows, MAX_ACCOUNTS, MAX_LEVELS):
            raise InvalidHouse("the rows are no account rows")
        self._tree = Tree(rows)
        self._newest = -1
        # For each account the areas of all accounts below it, by periods. The dicts in it never change.
        self._areas = {}

    @property
    def names(self):
        """The names of all accounts, ascending."""
        return tuple([row[0] for row in self._tree.tree_rows])

    @property
    def newest(self):
        """The greatest period in which an area is above 0, or -1."""
        return self._newest

    @property
    def levels(self):
        """The greatest number of accounts one below the other."""
        return max([len(line) for line in self._tree.account_lines.values()])

    def with_use(self, name, period, area):
        """The accounts with an area more for an account and a period."""
        self._check_name(name)
        if not is_between(period, 0, MAX_USED_PERIOD):
            raise InvalidNumber(period)
        if not is_between(area, 0, MAX_AREA):
            raise InvalidNumber(area)
        return self.with_areas(name, {period: area} if area > 0 else {})

    def with_areas(self, name, areas):
        """The accounts with areas above 0 more for an account that there is, told by their periods."""
        # Rows that are right need not be looked at again.
        made = Accounts(ONE_ROW)
        made._tree = self._tree
        made._newest = max([self._newest] + list(areas))
        made._areas = {other: self._areas[other] for other in self._areas}
        for one in self._tree.account_lines[name]:
            kept = self._kept_areas(one, made._newest)
            for period in areas:
                kept[period] = kept.get(period, 0) + areas[period]
            made._areas[one] = kept
        return made

    def use_of(self, name, period):
        """The use of an account in a period."""
        self._check_name(name)
        self._check_period(period)
        return self._use(name, period)

    def fraction_of(self, name):
        """The fraction of an account, in lowest terms."""
        self._check_name(name)
        return self._tree.fraction(name)

    def fair_order(self, period):
        """The fair order of the names in a period."""
        self._check_period(period)
        return self._tree.ordered({name: self._use(name, period) for name in self._areas})

    def turns(self, period):
        """The pairs (later period, fair order) of all later periods with another order than the one ahead."""
        self._check_period(period)
        forgets = {}
        for name in self._areas:
            for used in self._kept_areas(name, period):
                forgets.setdefault(used, []).append(name)
        # Seen from one period all uses are halved alike, so only what is forgotten changes their order.
        uses = {name: self._use(name, period) for name in self._areas}
        order = self._tree.ordered(uses)
        found = []
        for used in sorted(forgets):
            for name in forgets[used]:
                uses[name] = uses[name] - _weighed(self._areas[name][used], used, period)
            later = self._tree.ordered(uses)
            if later != order:
                found.append((used + KEPT_PERIODS + 1, later))
            order = later
        return tuple(found)

    def parent_of(self, name):
        """The name of the parent of an account, or the empty one."""
        self._check_name(name)
        return self._tree.parents[name]

    def share_of(self, name):
        """The share of an account."""
        self._check_name(name)
        return self._tree.shares[name]

    def line(self, name):
        """The names from an account up to its root."""
        self._check_name(name)
        return self._tree.account_lines[name]

    def children_of(self, name):
        """The names of the children of an account, or of the roots, ascending."""
        if name != ROOT:
            self._check_name(name)
        return tuple(self._tree.below[name])

    def __contains__(self, x):
        return isinstance(x, str) and x in self._tree.parents

    def __len__(self):
        return len(self._tree.tree_rows)

    def __iter__(self):
        return iter(self._tree.tree_rows)

    def __eq__(self, other):
        return isinstance(other, Accounts) and self._key() == other._key()

    def __str__(self):
        return f"accounts {len(self._tree.tree_rows)}, levels {self.levels}"

    def _key(self):
        """What is equal for equal accounts."""
        areas = {name: self._kept_areas(name, self._newest) for name in self._areas}
        return (self._tree.tree_rows, {name: areas[name] for name in areas if areas[name]})

    def _kept_areas(self, name, period):
        """A copy of the areas of an account that are not forgotten in a period."""
        areas = self._areas.get(name, {})
        return {used: areas[used] for used in areas if period - used <= KEPT_PERIODS}

    def _use(self, name, period):
        """The use of an account in a period that may be asked."""
        areas = self._kept_areas(name, period)
        return sum([_weighed(areas[used], used, period) for used in areas])

    def _check_name(self, name):
        """Refuse what is none of the names."""
        if name not in self:
            raise UnknownName(name)

    def _check_period(self, period):
        """Refuse a period that is not asked."""
        if not is_between(period, max(0, self._newest), MAX_ASKED_PERIOD):
            raise InvalidNumber(period)


def _weighed(area, used, period):
    """How much an area counts, seen from a period."""
    return area << (KEPT_PERIODS - (period - used))
