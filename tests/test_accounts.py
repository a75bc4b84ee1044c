"""Points 8.1 to 8.5: accounts, their use, and the fair order."""

import fractions
import random

from toldstarts.errors import InvalidHouse, InvalidNumber, UnknownName
from toldstarts.rank import accounts as module
from toldstarts.rank.accounts import Accounts
from helper import Case, ODD

ROWS = (("lab", "", 3), ("team", "lab", 1), ("solo", "lab", 1), ("web", "", 1))
PLAIN = Accounts(ROWS)
NO_INTEGERS = [value for value in ODD if isinstance(value, bool) or not isinstance(value, int)]


def chain(many):
    """Accounts one below the other."""
    return tuple([("a%d" % at, "a%d" % (at - 1) if at else "", 1) for at in range(many)])


def some_rows(chance, most=8):
    names = chance.sample("abcdefghij", chance.randrange(1, most))
    rows, depths = [], {"": 0}
    for name in names:
        parent = chance.choice([one for one in depths if depths[one] < 8])
        depths[name] = depths[parent] + 1
        rows.append((name, parent, chance.choice((1, 1, 2, 3, 7, 10 ** 6))))
    chance.shuffle(rows)
    return tuple(rows)


class Plain:
    """Stage 8 from its words: a list of uses, and sums over it."""

    def __init__(self, rows):
        self.rows, self.uses = sorted(rows), []

    def below(self, name):
        found = [name]
        for row in self.rows:
            if row[1] == name:
                found += self.below(row[0])
        return found

    def use_of(self, name, period):
        return sum([area * 2 ** (60 - (period - used)) for one, used, area in self.uses
                    if area > 0 and one in self.below(name) and period - used <= 60])

    def fraction_of(self, name):
        row = [row for row in self.rows if row[0] == name][0]
        part = fractions.Fraction(row[2], sum([other[2] for other in self.rows if other[1] == row[1]]))
        return part * self.fraction_of(row[1]) if row[1] else part

    def fair_order(self, period, parent=""):
        rows = [(fractions.Fraction(self.use_of(name, period), share), name) for name, above, share in self.rows if above == parent]
        found = []
        for _, name in sorted(rows):
            found += [name] + self.fair_order(period, name)
        return found

    def newest(self):
        return max([-1] + [used for _, used, area in self.uses if area > 0])


class Making(Case):
    def test_constants(self):
        self.assertEqual((module.MAX_ACCOUNTS, module.MAX_LEVELS, module.KEPT_PERIODS), (40, 8, 60))

    def test_examples(self):
        accounts = PLAIN.with_use("web", 0, 4).with_use("team", 5, 8)
        self.assertEqual([PLAIN.fair_order(0), PLAIN.fraction_of("team"), PLAIN.children_of(""), PLAIN.newest, str(PLAIN)],
                         [("lab", "solo", "team", "web"), (3, 8), ("lab", "web"), -1, "accounts 4, levels 2"])
        self.assertEqual([accounts.fair_order(5), accounts.turns(5), accounts.use_of("lab", 65), accounts.use_of("lab", 66), accounts.use_of("web", 57)],
                         [("web", "lab", "solo", "team"), ((66, ("lab", "solo", "team", "web")),), 8, 0, 32])

    def test_rows(self):
        many = tuple([("n%02d" % at, "", at + 1) for at in range(40)])
        for rows in (ROWS, ROWS[::-1], (("a", "", 1),), (("abcdefghijkl", "", 10 ** 6),), chain(8), many, (("b", "a", 1), ("a", "", 1))):
            accounts = Accounts(rows)
            self.assertEqual((list(accounts), len(accounts), accounts.names), (sorted(rows), len(rows), tuple(sorted([row[0] for row in rows]))))
        self.assertEqual([Accounts(rows).levels for rows in (ROWS, many, chain(8), chain(3) + (("z", "", 1),))], [2, 1, 8, 3])
        self.assertEqual([str(Accounts(chain(8))), str(Accounts(many))], ["accounts 8, levels 8", "accounts 40, levels 1"])

    def test_no_rows(self):
        one = ("a", "", 1)
        for rows in ODD + ([one], one, (one, one), (one, ("a", "", 2)), (("a", "a", 1),), (("a", "b", 1),), (("a", "b", 1), ("b", "a", 1)),
                           (one, ("b", "c", 1), ("c", "d", 1), ("d", "b", 1)), (("a", None, 1),), (("a", "", 0),), (("a", "", 10 ** 6 + 1),),
                           (("a", "", True),), (("a", "", "1"),), (("", "", 1),), (("A", "", 1),), (("abcdefghijklm", "", 1),), (("1", "", 1),),
                           (one, ("b", "A", 1)), (["a", "", 1],), (("a", ""),), (("a", "", 1, 1),), (one, None), chain(9), {one: one},
                           tuple([("n%02d" % at, "", 1) for at in range(41)]), (one, ("b", ("a",), 1)), (one, ("b", ["a"], 1)), (one, ([], "a", 1)),
                           (("b", "a", 1), ("c", "", 1)), (("a", "", 10 ** 70),)):
            self.refused(InvalidHouse, Accounts, rows)
        for value in ODD:
            if value not in ("x", "all", "nothing"):
                self.refused(InvalidHouse, Accounts, ((value, "", 1),))
                self.refused(InvalidHouse, Accounts, ((value, "", 1), one))
            if value != "":
                self.refused(InvalidHouse, Accounts, (one, ("b", value, 1)))
            if isinstance(value, bool) or not isinstance(value, int) or not 1 <= value <= 7:
                self.refused(InvalidHouse, Accounts, (("a", "", value),))

    def test_accounts_never_change(self):
        for name in ("names", "newest", "levels"):
            with self.assertRaises(AttributeError):
                setattr(PLAIN, name, 1)
        one = PLAIN.with_use("team", 3, 9)
        one.with_use("team", 3, 9).with_use("web", 70, 1)
        self.assertEqual((one.newest, one.use_of("lab", 3), PLAIN.newest, PLAIN.use_of("lab", 3)), (3, 9 * 2 ** 60, -1, 0))


class Looking(Case):
    def test_the_tree(self):
        self.assertEqual([PLAIN.parent_of("team"), PLAIN.parent_of("web"), PLAIN.share_of("lab"), PLAIN.line("team"), PLAIN.line("web")],
                         ["lab", "", 3, ("team", "lab"), ("web",)])
        self.assertEqual([PLAIN.children_of(""), PLAIN.children_of("lab"), PLAIN.children_of("web")], [("lab", "web"), ("solo", "team"), ()])
        self.assertEqual(Accounts(chain(8)).line("a7"), tuple(["a%d" % at for at in range(7, -1, -1)]))

    def test_names(self):
        for name in PLAIN.names:
            self.assertIs(name in PLAIN, True)
        for value in ODD + ("", "Lab", "labs", ("lab",), ["lab"]):
            self.assertIs(value in PLAIN, False)
            for call in (PLAIN.parent_of, PLAIN.share_of, PLAIN.line, PLAIN.fraction_of):
                self.assertIs(self.refused(UnknownName, call, value).wanted, value)
            if value != "":
                self.assertIs(self.refused(UnknownName, PLAIN.children_of, value).wanted, value)
            self.assertIs(self.refused(UnknownName, PLAIN.use_of, value, None).wanted, value)
            self.assertIs(self.refused(UnknownName, PLAIN.with_use, value, None, None).wanted, value)

    def test_periods_and_areas(self):
        used = PLAIN.with_use("web", 10 ** 9, 10 ** 18)
        self.assertEqual((used.newest, used.use_of("web", 10 ** 9), used.use_of("web", 10 ** 9 + 60)), (10 ** 9, 10 ** 18 * 2 ** 60, 10 ** 18))
        for value in NO_INTEGERS + [-1, 10 ** 9 + 1, 10 ** 60]:
            self.assertIs(self.refused(InvalidNumber, PLAIN.with_use, "web", value, -1).given, value)
        for value in NO_INTEGERS + [-1, 10 ** 18 + 1, 10 ** 60]:
            self.assertIs(self.refused(InvalidNumber, PLAIN.with_use, "web", 0, value).given, value)
        later = PLAIN.with_use("web", 7, 1)
        for value in NO_INTEGERS + [-1, 0, 1, 6, 2 * 10 ** 9 + 1, 10 ** 60]:
            for call in (later.fair_order, later.turns):
                self.assertIs(self.refused(InvalidNumber, call, value).given, value)
            self.assertIs(self.refused(InvalidNumber, later.use_of, "lab", value).given, value)
        self.refused(InvalidNumber, PLAIN.use_of, "lab", -1)
        self.assertEqual((later.use_of("web", 7), later.use_of("web", 2 * 10 ** 9), PLAIN.use_of("web", 0)), (2 ** 60, 0, 0))
        self.assertEqual(later.turns(2 * 10 ** 9), ())

    def test_newest(self):
        self.assertEqual([PLAIN.with_use("web", 9, 0).newest, PLAIN.with_use("web", 9, 1).with_use("lab", 3, 1).newest,
                          PLAIN.with_use("web", 9, 1).with_use("lab", 12, 0).newest, PLAIN.with_use("web", 0, 1).newest], [-1, 9, 9, 0])

    def test_old_areas(self):
        one = PLAIN.with_use("web", 100, 1)
        for used, worth in ((100, 2 ** 60), (41, 2), (40, 1), (39, 0), (0, 0)):
            self.assertEqual(one.with_use("lab", used, 1).use_of("lab", 100), worth)
        early = PLAIN.with_use("lab", 39, 5).with_use("lab", 40, 5).with_use("web", 100, 1)
        self.assertEqual((early.use_of("lab", 100), early.use_of("lab", 101)), (5, 0))

    def test_equality(self):
        used = PLAIN.with_use("team", 5, 8).with_use("web", 3, 2)
        for other in (Accounts(ROWS[::-1]).with_use("web", 3, 2).with_use("team", 5, 8), used.with_use("lab", 9, 0),
                      PLAIN.with_use("team", 5, 3).with_use("web", 3, 2).with_use("team", 5, 5)):
            self.assertIs(used == other, True)
            self.assertIs(used != other, False)
        for other in ODD + (PLAIN, used.with_use("web", 5, 1), used.with_use("lab", 5, 1), Accounts(ROWS[:3]).with_use("team", 5, 8), ROWS,
                            PLAIN.with_use("lab", 5, 8).with_use("web", 3, 2), PLAIN.with_use("team", 5, 8).with_use("web", 4, 2),
                            Accounts((("lab", "", 4),) + ROWS[1:]).with_use("team", 5, 8).with_use("web", 3, 2)):
            self.assertIs(used == other, False)
            self.assertIs(used != other, True)
        late = PLAIN.with_use("web", 100, 1)
        self.assertEqual(late.with_use("lab", 39, 7), late)
        self.assertEqual(PLAIN.with_use("lab", 39, 7).with_use("team", 30, 7).with_use("web", 100, 1), late)
        self.assertNotEqual(late.with_use("lab", 40, 7), late)
        self.assertNotEqual(PLAIN.with_use("web", 99, 1), late)
        self.assertEqual(Accounts(ROWS), PLAIN)


class Orders(Case):
    def test_exact_comparison(self):
        rows = (("a", "", 10 ** 6), ("b", "", 10 ** 6 - 1))
        one = Accounts(rows).with_use("a", 0, 10 ** 6).with_use("b", 0, 10 ** 6 - 1)
        self.assertEqual(one.fair_order(0), ("a", "b"))
        self.assertEqual(one.with_use("a", 0, 1).fair_order(0), ("b", "a"))
        self.assertEqual(one.with_use("b", 0, 1).fair_order(0), ("a", "b"))
        great = Accounts(rows).with_use("a", 60, 10 ** 18).with_use("b", 60, 10 ** 18 - 10 ** 12)
        self.assertEqual(great.fair_order(60), ("a", "b"))
        self.assertEqual(great.with_use("a", 0, 1).fair_order(60), ("b", "a"))
        self.assertEqual(great.with_use("a", 0, 1).turns(60), ((61, ("a", "b")), ))

    def test_fractions(self):
        chance = random.Random(81)
        for _ in range(100):
            rows = some_rows(chance)
            accounts, plain = Accounts(rows), Plain(rows)
            for name in accounts.names:
                part = plain.fraction_of(name)
                self.assertEqual(accounts.fraction_of(name), (part.numerator, part.denominator))
                children = [fractions.Fraction(*accounts.fraction_of(child)) for child in accounts.children_of(name)]
                self.assertEqual(sum(children), part if children else 0)
            self.assertEqual(sum([fractions.Fraction(*accounts.fraction_of(root)) for root in accounts.children_of("")]), 1)
        self.assertEqual(Accounts(tuple([("a%d" % at, "", 10 ** 6) for at in range(8)])).fraction_of("a0"), (1, 8))

    def test_against_the_words(self):
        chance = random.Random(82)
        found = [0, 0, 0]
        for _ in range(200):
            rows = some_rows(chance)
            accounts, plain = Accounts(rows), Plain(rows)
            base = chance.choice((0, 50, 10 ** 9 - 80))
            for _ in range(chance.randrange(9)):
                use = (chance.choice(accounts.names), base + chance.choice((0, 1, 2, 5, 30, 60, 61, 62)), chance.choice((0, 1, 1, 2, 3, 10 ** 18)))
                accounts = accounts.with_use(*use)
                plain.uses.append(use)
            self.assertEqual(accounts.newest, plain.newest())
            now = max(0, accounts.newest)
            orders = {}
            for period in range(now, now + 70):
                orders[period] = tuple(plain.fair_order(period))
                self.assertEqual(accounts.fair_order(period), orders[period])
            for name in accounts.names:
                for period in (now, now + 1, now + 59, now + 60, now + 61):
                    self.assertEqual(accounts.use_of(name, period), plain.use_of(name, period))
            turns = tuple([(period, orders[period]) for period in range(now + 1, now + 70) if orders[period] != orders[period - 1]])
            self.assertEqual(accounts.turns(now), turns)
            self.assertEqual(accounts.turns(now + 7), tuple([turn for turn in turns if turn[0] > now + 7]))
            found[min(len(turns), 2)] += 1
        self.assertGreater(min(found), 15)

    def test_a_turn_in_each_period(self):
        """Each forgotten area lets two accounts change places."""
        accounts = Accounts((("a", "", 1), ("b", "", 1))).with_use("a", 59, 1)
        for used in range(1, 61):
            accounts = accounts.with_use("ba"[used % 2], used, 2 ** (60 - used))
        self.assertEqual(accounts.fair_order(60), ("b", "a"))
        turns = accounts.turns(60)
        self.assertEqual([period for period, _ in turns], list(range(62, 121)))
        self.assertEqual([order for _, order in turns], [("a", "b"), ("b", "a")] * 29 + [("a", "b")])
        self.assertEqual(accounts.turns(119), ((120, ("a", "b")),))
        self.assertEqual(accounts.turns(120), ())
