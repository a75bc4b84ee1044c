"""The tree of accounts: which account lies below which one, and with which share."""

from math import gcd, lcm

from toldstarts.base.checks import is_between, is_name

MAX_SHARE = 1000000
ROOT = ""


class Tree:
    """Account rows, with all that follows from them alone."""

    def __init__(self, rows):
        ascending = tuple(sorted(rows))
        self.tree_rows = ascending
        self.parents = {name: parent for name, parent, _ in ascending}
        self.shares = {name: share for name, _, share in ascending}
        self.below = _children_of(ascending)
        self.account_lines = {name: line_of(self.parents, name) for name in self.parents}
        self.factors = _factors_of(self.below, self.shares)

    def fraction(self, name):
        """The fraction of an account, in lowest terms."""
        over, under = 1, 1
        for one in self.account_lines[name]:
            over = over * self.shares[one]
            under = under * sum([self.shares[other] for other in self.below[self.parents[one]]])
        common = gcd(over, under)
        return (over // common, under // common)

    def ordered(self, uses):
        """The fair order of all names by the uses of the accounts."""
        found, waiting = [], [ROOT]
        while waiting:
            name = waiting.pop()
            found.append(name)
            rows = sorted([(uses.get(one, 0) * self.factors[one], one) for one in self.below[name]], reverse=True)
            waiting.extend([one for _, one in rows])
        return tuple(found[1:])


def are_account_rows(value, most, levels):
    """Whether the value are account rows: at most so many, and so many one below the other."""
    if not isinstance(value, tuple) or not 1 <= len(value) <= most or not all([is_account_row(row) for row in value]):
        return False
    parents = {name: parent for name, parent, _ in value}
    if len(parents) < len(value) or not all([parent == ROOT or parent in parents for parent in parents.values()]):
        return False
    return all([_is_short_line(parents, name, levels) for name in parents])


def _children_of(rows):
    """For each account of ascending rows, and for the roots, the ascending names of the children."""
    found = {}
    for name in [ROOT] + [row[0] for row in rows]:
        found[name] = []
    for name, parent, _ in rows:
        found[parent].append(name)
    return found


def _factors_of(below, shares):
    """For each account a factor: the uses of children times theirs are in the order of the uses divided by shares."""
    factors = {}
    for names in below.values():
        whole = 1
        for name in names:
            whole = lcm(whole, shares[name])
        for name in names:
            factors[name] = whole // shares[name]
    return factors


def line_of(parents, name):
    """The names from an account up to its root."""
    found = []
    while name != ROOT:
        found.append(name)
        name = parents[name]
    return tuple(found)


def is_account_row(value):
    """Whether the value has the form of an account row, whatever other rows there are."""
    if not isinstance(value, tuple) or len(value) != 3:
        return False
    name, parent, share = value
    if not is_name(name) or not (parent == ROOT or is_name(parent)) or parent == name:
        return False
    return is_between(share, 1, MAX_SHARE)


def _is_short_line(parents, name, levels):
    """Whether an account has a root, and stands in few enough levels. Parents in a ring never end."""
    at, many = name, 0
    while at != ROOT and many <= levels:
        at = parents[at]
        many = many + 1
    return many <= levels
