"""Accounts in a tree of shares, their uses, and the fair order that follows from these."""

from toldstarts.base.checks import is_between
from toldstarts.errors import InvalidHouse, InvalidNumber, UnknownName
from toldstarts.rank.areas import Areas, weighed
from toldstarts.rank.tree import ROOT, Tree, are_account_rows

MAX_ACCOUNTS = 40
MAX_LEVELS = 8
KEPT_PERIODS = 60

MAX_USED_PERIOD = 10 ** 9
MAX_AREA = 10 ** 18
MAX_ASKED_PERIOD = 2 * 10 ** 9
ONE_ROW = (("none", "", 1),)


class Accounts:
    """Accounts, with the areas that they have used in some periods."""

    def __init__(self, rows):
        if not are_account_rows(rows, MAX_ACCOUNTS, MAX_LEVELS):
            raise InvalidHouse("the rows are no account rows")
        self._tree = Tree(rows)
        self._areas = Areas(self._tree, -1, {})

    @property
    def names(self):
        """The names of all accounts, ascending."""
        return tuple([row[0] for row in self._tree.tree_rows])

    @property
    def newest(self):
        """The greatest period in which an area is above 0, or -1."""
        return self._areas.newest_period

    @property
    def levels(self):
        """The greatest number of accounts one below the other."""
        return max([len(line) for line in self._tree.account_lines.values()])

    def with_use(self, name, period, area):
        """The accounts with an area more for an account and a period."""
        self._check_name(name)
        if not is_between(period, 0, MAX_USED_PERIOD):
            raise InvalidNumber(period)
        if not is_between(area, 0, MAX_AREA):
            raise InvalidNumber(area)
        return accounts_with(self._areas.with_more({name: {period: area} if area > 0 else {}}))

    def use_of(self, name, period):
        """The use of an account in a period."""
        self._check_name(name)
        self._check_period(period)
        return self._areas.use(name, period)

    def fraction_of(self, name):
        """The fraction of an account, in lowest terms."""
        self._check_name(name)
        return self._tree.fraction(name)

    def fair_order(self, period):
        """The fair order of the names in a period."""
        self._check_period(period)
        return self._areas.order_at(period)

    def turns(self, period):
        """The pairs (later period, fair order) of all later periods with another order than the one ahead."""
        self._check_period(period)
        areas, forgets = self._areas, {}
        for name in areas.area_rows:
            for used, area in areas.kept(name, period).items():
                forgets.setdefault(used, []).append((name, weighed(area, used, period)))
        # Seen from one period all uses are halved alike, so only what is forgotten changes their order.
        uses = {name: areas.use(name, period) for name in areas.area_rows}
        order = areas.tree.ordered(uses)
        found = []
        for used in sorted(forgets):
            for name, share in forgets[used]:
                uses[name] = uses[name] - share
            later = areas.tree.ordered(uses)
            if later != order:
                found.append((used + KEPT_PERIODS + 1, later))
            order = later
        return tuple(found)

    def parent_of(self, name):
        """The name of the parent of an account, or the empty one."""
        self._check_name(name)
        return self._tree.parents[name]

    def share_of(self, name):
        """The share of an account."""
        self._check_name(name)
        return self._tree.shares[name]

    def line(self, name):
        """The names from an account up to its root."""
        self._check_name(name)
        return self._tree.account_lines[name]

    def children_of(self, name):
        """The names of the children of an account, or of the roots, ascending."""
        if name != ROOT:
            self._check_name(name)
        return tuple(self._tree.below[name])

    def __contains__(self, x):
        return isinstance(x, str) and x in self._tree.parents

    def __len__(self):
        return len(self._tree.tree_rows)

    def __iter__(self):
        return iter(self._tree.tree_rows)

    def __eq__(self, other):
        return isinstance(other, Accounts) and self._areas.key() == other._areas.key()

    def __str__(self):
        return f"accounts {len(self._tree.tree_rows)}, levels {self.levels}"

    def _check_name(self, name):
        """Refuse what is none of the names."""
        if name not in self:
            raise UnknownName(name)

    def _check_period(self, period):
        """Refuse a period that is not asked."""
        if not is_between(period, max(0, self._areas.newest_period), MAX_ASKED_PERIOD):
            raise InvalidNumber(period)


def accounts_with(areas):
    """The accounts with areas that are surely right."""
    made = Accounts(ONE_ROW)
    made._tree = areas.tree
    made._areas = areas
    return made


def areas_of(accounts):
    """The areas of accounts."""
    return accounts._areas
