"""The areas that accounts have used in some periods. What is told here never changes; more areas make others."""

# A period counts half as much as the one behind it, and not at all if it is more periods ago than these.
MOST_HALVED = 60


class Areas:
    """For each account of a tree the areas of all accounts below it, by periods."""

    def __init__(self, tree, newest, rows):
        self.tree = tree
        self.newest_period = newest
        # The dicts in it never change.
        self.area_rows = rows
        self.known_orders = {}

    def with_more(self, more):
        """The areas with others above 0 more, told by accounts and then by periods."""
        newest = max([self.newest_period] + [max(rows) for rows in more.values() if rows])
        found = dict(self.area_rows)
        for name, rows in more.items():
            for one in self.tree.account_lines[name]:
                kept = _kept(found.get(one, {}), newest)
                for period in rows:
                    kept[period] = kept.get(period, 0) + rows[period]
                found[one] = kept
        return Areas(self.tree, newest, found)

    def kept(self, name, period):
        """The areas of an account that are not forgotten in a period."""
        return _kept(self.area_rows.get(name, {}), period)

    def use(self, name, period):
        """The use of an account in a period."""
        rows = self.kept(name, period)
        return sum([weighed(rows[used], used, period) for used in rows])

    def order_at(self, period):
        """The fair order of the names in a period."""
        if period not in self.known_orders:
            self.known_orders[period] = self.tree.ordered({name: self.use(name, period) for name in self.area_rows})
        return self.known_orders[period]

    def key(self):
        """What is equal for equal areas of accounts."""
        rows = {name: self.kept(name, self.newest_period) for name in self.area_rows}
        return (self.tree.tree_rows, {name: rows[name] for name in rows if rows[name]})


def weighed(area, used, period):
    """How much an area counts, seen from a period."""
    return area << (MOST_HALVED - (period - used))


def _kept(rows, period):
    """A copy of those areas that are not forgotten in a period."""
    return {used: rows[used] for used in rows if period - used <= MOST_HALVED}
