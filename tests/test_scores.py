"""Points 9.1 to 9.5: scores, and how entries are ranked now and later."""

import random
import time

from toldstarts.errors import InvalidHouse, InvalidJob, InvalidNumber, InvalidTick, TooMany, UnknownName
from toldstarts.rank import scores as module
from toldstarts.rank.accounts import Accounts
from toldstarts.rank.scores import Weights, is_order_turns, order_turns, ranked, score
from helper import Case, ODD

FLAT = Accounts((("web", "", 1), ("lab", "", 1)))
ORDER = ("web", "lab")
ONE = (1, 0, 0, 0, "lab")
TWO = (2, 5, 0, 4, "lab")
WEIGHTS = Weights(cap=10, grade=1, place=5)
NAMES = ("age", "cap", "size", "grade", "place")
NO_INTEGERS = [value for value in ODD if isinstance(value, bool) or not isinstance(value, int)]
NO_WEIGHTS = ODD + ((1, 10, 0, 1, 5), {"age": 1})
NO_ENTRIES = (1, 0, 0, 0), (1, 0, 0, 0, "lab", 1), [1, 0, 0, 0, "lab"], (0, 0, 0, 0, "lab"), (10 ** 6 + 1, 0, 0, 0, "lab"), (True, 0, 0, 0, "lab"), \
    (1, -1, 0, 0, "lab"), (1, 10 ** 6 + 1, 0, 0, "lab"), (1, False, 0, 0, "lab"), (1, 0, -1, 0, "lab"), (1, 0, 10 ** 12 + 1, 0, "lab"), \
    (1, 0, True, 0, "lab"), (1, 0, 0, -1, "lab"), (1, 0, 0, 10 ** 6 + 1, "lab"), (1, 0, 0, None, "lab"), (1, 0, 0, 0, ""), (1, 0, 0, 0, "Lab"), \
    (1, 0, 0, 0, None), (1, 0, 0, 0, ("lab",)), (1, 0, 0, 0, ["lab"]), ("1", 0, 0, 0, "lab")


def plain_score(weights, entry, tick, order):
    """9.2 from its words."""
    number, came, size, grade, account = entry
    return (weights.age * min(tick - came, weights.cap) + weights.size * size + weights.grade * grade
            + weights.place * len(order[order.index(account):]))


def plain_ranked(weights, entries, tick, order):
    """9.3 from its words."""
    return tuple([entry[0] for entry in sorted(entries, key=lambda entry: (-plain_score(weights, entry, tick, order), entry[0]))])


def plain_turns(weights, entries, accounts, tick, length, last):
    """9.4 from its words, tick by tick up to a last one."""
    found, orders, before = [], {}, None
    for now in range(tick, last + 1):
        period = now // length
        if period not in orders:
            orders[period] = accounts.fair_order(period)
        rows = plain_ranked(weights, entries, now, orders[period])
        if before is not None and rows != before:
            found.append((now, rows))
        before = rows
    return tuple(found)


def some_accounts(chance, newest):
    names = chance.sample(("lab", "web", "team", "solo", "ai"), chance.randrange(1, 6))
    accounts = Accounts(tuple([(name, chance.choice([""] + names[:at]), chance.choice((1, 1, 2, 5))) for at, name in enumerate(names)]))
    for _ in range(chance.randrange(7)):
        accounts = accounts.with_use(chance.choice(names), chance.randrange(newest + 1), chance.choice((1, 2, 3, 50, 10 ** 9)))
    return accounts


def some_case(chance):
    """Weights, entries, accounts, a tick and a length of periods."""
    weights = Weights(age=chance.choice((0, 1, 1, 2, 3, 7)), cap=chance.choice((0, 1, 5, 20, 60, 10 ** 6)), size=chance.choice((0, 1, 2)),
                      grade=chance.choice((0, 1, 5)), place=chance.choice((0, 1, 5, 10)))
    length = chance.choice((1, 2, 3, 7, 100))
    tick = chance.choice((0, 5, 10, 30, 40))
    accounts = some_accounts(chance, tick // length)
    entries = tuple([(number, chance.randrange(tick + 1), chance.randrange(12), chance.randrange(6), chance.choice(accounts.names))
                     for number in chance.sample(range(1, 30), chance.randrange(8))])
    return weights, entries, accounts, tick, length


def climbing(many):
    """A case in which one account passes 38 others, a period each, and with it its entries those of a last one again and again."""
    accounts = Accounts((("a", "", 1), ("b", "", 1)) + tuple([("x%02d" % at, "", 1) for at in range(1, 39)]))
    for used in range(39):
        accounts = accounts.with_use("a", used, 2 ** (59 - used))
    for at in range(1, 39):
        accounts = accounts.with_use("x%02d" % at, 59, at)
    entries = tuple([(at + 1, 0, 30 * at, 0, "a") for at in range(many)] + [(at + 101, 60000, 450 + at, 0, "b") for at in range(many)])
    return Weights(age=1, cap=39500, size=1, place=1000), entries, accounts, 60000, 1000


class Weighing(Case):
    def test_constants(self):
        self.assertEqual((module.MAX_ENTRIES, module.MAX_TURNS), (60, 10000))

    def test_properties(self):
        plain = Weights()
        self.assertEqual([getattr(plain, name) for name in NAMES], [1, 10000, 0, 0, 0])
        full = Weights(age=2, cap=3, size=4, grade=5, place=10 ** 6)
        self.assertEqual([getattr(full, name) for name in NAMES], [2, 3, 4, 5, 10 ** 6])
        self.assertEqual([str(plain), str(full)], ["age 1 cap 10000 size 0 grade 0 place 0", "age 2 cap 3 size 4 grade 5 place 1000000"])
        for name in NAMES:
            with self.assertRaises(AttributeError):
                setattr(plain, name, 1)
        self.assertRaises(TypeError, iter, plain)
        self.assertRaises(TypeError, Weights, 1)

    def test_wrong_weights(self):
        for value in NO_INTEGERS + [-1, 10 ** 6 + 1, 10 ** 60]:
            for name in NAMES:
                self.assertIs(self.refused(InvalidNumber, Weights, **{name: value}).given, value)
                self.assertIs(self.refused(InvalidNumber, Weights().changed, **{name: value}).given, value)
        self.assertEqual(self.refused(InvalidNumber, Weights, place=-5, grade=-4, size=-3, cap=-2).given, -2)
        self.assertEqual(self.refused(InvalidNumber, Weights().changed, place=-5, grade=-4, age=-1).given, -1)

    def test_changed(self):
        full = Weights(age=2, cap=3, size=4, grade=5, place=6)
        self.assertEqual(full.changed(cap=0, place=1), Weights(age=2, cap=0, size=4, grade=5, place=1))
        self.assertEqual(full.changed(), full)
        for names, wanted in ((("Age",), "Age"), (("cap", "limit", "ages"), "limit"), (("z", "a"), "z"), (("", "age"), "")):
            self.assertEqual(self.refused(UnknownName, full.changed, **{name: -1 for name in names}).wanted, wanted)
        self.assertEqual(str(full), "age 2 cap 3 size 4 grade 5 place 6")

    def test_equality(self):
        self.assertIs(Weights() == Weights(cap=10000), True)
        self.assertIs(Weights() != Weights(cap=10000), False)
        for other in ODD + tuple([Weights().changed(**{name: 77}) for name in NAMES]):
            self.assertIs(Weights() == other, False)
            self.assertIs(Weights() != other, True)


class Scores(Case):
    def test_examples(self):
        self.assertEqual([score(WEIGHTS, ONE, 6, ORDER), score(WEIGHTS, TWO, 6, ORDER), ranked(WEIGHTS, (ONE, TWO), 6, ORDER)], [11, 10, (1, 2)])
        self.assertEqual(order_turns(WEIGHTS, (ONE, TWO), FLAT, 6, 100), ((12, (2, 1)),))
        mixed, used = ((1, 0, 0, 0, "lab"), (2, 0, 0, 3, "web")), FLAT.with_use("lab", 0, 1)
        self.assertEqual([ranked(WEIGHTS, mixed, 6, used.fair_order(0)), order_turns(WEIGHTS, mixed, used, 6, 100)], [(2, 1), ((6100, (1, 2)),)])

    def test_parts_of_a_score(self):
        entry = (7, 100, 10 ** 12, 10 ** 6, "lab")
        for weights, tick, expected in ((Weights(), 100, 0), (Weights(), 105, 5), (Weights(cap=3), 105, 3), (Weights(cap=5), 105, 5), (Weights(cap=0), 105, 0),
                                        (Weights(age=0), 10 ** 9, 0), (Weights(age=10 ** 6, cap=10 ** 6), 2 * 10 ** 9, 10 ** 12),
                                        (Weights(size=10 ** 6), 100, 10 ** 18), (Weights(grade=10 ** 6), 100, 10 ** 12), (Weights(place=3), 100, 9)):
            self.assertEqual(score(weights, entry, tick, ("web", "lab", "team", "solo")), expected)
        for account, many in (("web", 4), ("lab", 3), ("team", 2), ("solo", 1)):
            self.assertEqual(score(Weights(place=10 ** 6), (7, 0, 0, 0, account), 0, ("web", "lab", "team", "solo")), many * 10 ** 6)
        forty = tuple(["n%02d" % at for at in range(40)])
        self.assertEqual(score(Weights(place=1), (7, 0, 0, 0, "n00"), 0, forty), 40)

    def test_equal_scores_are_ranked_by_number(self):
        entries = tuple([(number, 3, 5, 5, "lab") for number in (9, 2, 10 ** 6, 11)])
        self.assertEqual(ranked(Weights(size=1), entries, 3, ("lab",)), (2, 9, 11, 10 ** 6))
        self.assertEqual(ranked(Weights(), (), 0, ("lab",)), ())

    def test_against_the_words(self):
        chance = random.Random(91)
        for _ in range(300):
            weights, entries, accounts, tick, length = some_case(chance)
            order = accounts.fair_order(tick // length)
            self.assertEqual(ranked(weights, entries, tick, order), plain_ranked(weights, entries, tick, order))
            for entry in entries:
                self.assertEqual(score(weights, entry, tick, order), plain_score(weights, entry, tick, order))

    def test_errors_of_score_and_ranked(self):
        for value in NO_WEIGHTS:
            self.refused(InvalidHouse, score, value, None, None, None)
            self.refused(InvalidHouse, ranked, value, None, None, None)
        for value in ODD + NO_ENTRIES:
            self.refused(InvalidJob, score, WEIGHTS, value, None, None)
            if value != ():
                self.refused(InvalidJob, ranked, WEIGHTS, value, None, None)
            self.refused(InvalidJob, ranked, WEIGHTS, (value,), None, None)
            self.refused(InvalidJob, ranked, WEIGHTS, (TWO, value), None, None)
        for value in ([ONE], (ONE, ONE), (ONE, (1, 5, 5, 5, "web")), ONE, tuple([(at, 0, 0, 0, "lab") for at in range(1, 62)]), {ONE: 1}):
            self.refused(InvalidJob, ranked, WEIGHTS, value, None, None)
        for tick in NO_INTEGERS + [-1, 4, 2 * 10 ** 9 + 1, 10 ** 60]:
            self.refused(InvalidTick, score, WEIGHTS, TWO, tick, None)
            self.refused(InvalidTick, ranked, WEIGHTS, (TWO, ONE), tick, None)
        self.refused(InvalidTick, ranked, WEIGHTS, (), -1, ORDER)
        for order in ODD + (["lab"], ("lab", "lab"), ("lab", "Web"), "lab", {"lab": 1}, ("lab", None), ("lab", ("web",)), ("lab", ["web"]),
                            tuple(["n%02d" % at for at in range(41)])):
            self.refused(InvalidHouse, score, WEIGHTS, ONE, 6, order)
            self.refused(InvalidHouse, ranked, WEIGHTS, (ONE,), 6, order)
            self.refused(InvalidHouse, ranked, WEIGHTS, (), 6, order)
        self.assertEqual(self.refused(UnknownName, score, WEIGHTS, ONE, 6, ("web", "labs")).wanted, "lab")
        entries = (ONE, (4, 0, 0, 0, "zoo"), (3, 0, 0, 0, "ape"))
        self.assertEqual(self.refused(UnknownName, ranked, WEIGHTS, entries, 6, ORDER).wanted, "zoo")

    def test_edges(self):
        sixty = tuple([(at, 0, 0, at, "lab") for at in range(1, 61)])
        self.assertEqual(ranked(Weights(grade=1), sixty, 2 * 10 ** 9, ORDER), tuple(range(60, 0, -1)))
        self.assertEqual(score(Weights(cap=10 ** 6), (10 ** 6, 10 ** 6, 0, 0, "lab"), 10 ** 6, ORDER), 0)


class Turns(Case):
    def test_against_each_tick(self):
        chance = random.Random(92)
        counts = [0, 0, 0]
        for at in range(500):
            weights, entries, accounts, tick, length = some_case(chance)
            if weights.cap == 10 ** 6:
                weights = weights.changed(cap=100)
            # Behind this tick no age and no use changes any longer.
            last = max(tick + 210, (tick // length + 62) * length if length < 50 else 0)
            turns = plain_turns(weights, entries, accounts, tick, length, last)
            if length >= 50:
                turns += tuple([turn for turn in order_turns(weights, entries, accounts, tick, length) if turn[0] > last])
            self.assertEqual(order_turns(weights, entries, accounts, tick, length), turns)
            self.assertIs(is_order_turns(weights, entries, accounts, tick, length, turns), True)
            counts[min(2, len(turns))] += 1
            for value in (turns[1:], turns[:-1], turns + turns[-1:], turns + ((10 ** 9, ranked(weights, entries, tick, accounts.names)),)):
                self.assertIs(is_order_turns(weights, entries, accounts, tick, length, value), value == turns)
            if turns:
                one = chance.randrange(len(turns))
                turn, numbers = turns[one]
                for other in ((turn + 1, numbers), (turn, numbers[::-1]), (turn, numbers[1:]), (turn, list(numbers)), [turn, numbers], (turn,), turn,
                              (turn, numbers, ()), (turn - 1, numbers), (str(turn), numbers)):
                    self.assertIs(is_order_turns(weights, entries, accounts, tick, length, turns[:one] + (other,) + turns[one + 1:]), False)
        self.assertGreater(min(counts), 50)

    def test_pairs(self):
        """A tick is a turn exactly if it is one of two of the entries."""
        chance = random.Random(93)
        for _ in range(100):
            weights, entries, accounts, tick, length = some_case(chance)
            ticks = [turn for at, one in enumerate(entries) for other in entries[:at]
                     for turn, _ in order_turns(weights, (one, other), accounts, tick, length)]
            self.assertEqual([turn for turn, _ in order_turns(weights, entries, accounts, tick, length)], sorted(set(ticks)))

    def test_far_ahead(self):
        """Periods and ticks are not gone through one by one."""
        entries = ((1, 0, 0, 0, "lab"), (2, 10 ** 6, 0, 5, "lab"), (3, 10 ** 6, 0, 0, "web"))
        used = FLAT.with_use("web", 1, 1)
        self.assertEqual(order_turns(Weights(cap=10 ** 6, grade=1), entries, used, 10 ** 6, 10 ** 6), ((2 * 10 ** 6 - 4, (2, 1, 3)),))
        self.assertEqual(order_turns(Weights(age=0, place=1), entries, used, 10 ** 6, 10 ** 6), ())
        web = FLAT.with_use("lab", 1, 10 ** 18)
        self.assertEqual(order_turns(Weights(age=0, place=1), entries, web, 10 ** 6, 10 ** 6), ((62 * 10 ** 6, (1, 2, 3)),))
        self.assertEqual(order_turns(Weights(age=10 ** 6, cap=10 ** 6, grade=10 ** 6), (entries[0], (2, 10 ** 6, 0, 10 ** 6, "lab")), FLAT, 10 ** 6, 1),
                         ((10 ** 6 + 1, (2, 1)),))

    def test_orders_that_come_again(self):
        """Two accounts change places in each of 59 periods, and back."""
        accounts = Accounts((("lab", "", 1), ("web", "", 1))).with_use("lab", 59, 1)
        for used in range(1, 61):
            accounts = accounts.with_use(("web", "lab")[used % 2], used, 2 ** (60 - used))
        entries, weights = ((7, 50, 3, 0, "web"), (8, 60, 3, 0, "lab"), (9, 40, 2, 0, "web")), Weights(age=0, size=1, place=2)
        turns = order_turns(weights, entries, accounts, 60, 1)
        self.assertEqual([turn for turn, _ in turns], list(range(62, 121)))
        self.assertEqual(turns, plain_turns(weights, entries, accounts, 60, 1, 140))
        weights = Weights(age=1, cap=30, size=1, place=3)
        self.assertEqual(order_turns(weights, entries, accounts, 60, 1), plain_turns(weights, entries, accounts, 60, 1, 140))

    def test_at_the_cap(self):
        """The one that came first keeps its lead until its cap, and loses it then."""
        entries = ((1, 0, 0, 0, "lab"), (2, 5, 0, 0, "lab"))
        for grade, turns in ((0, ()), (1, ((15, (2, 1)),)), (2, ((14, (2, 1)),)), (4, ((12, (2, 1)),)), (5, ((11, (2, 1)),)), (6, ())):
            rows = (entries[0], entries[1][:3] + (grade,) + entries[1][4:])
            self.assertEqual(order_turns(Weights(cap=10, grade=1), rows, FLAT, 5, 1), turns)
        # With equal scores the lesser number is ahead.
        rows = ((2, 0, 0, 0, "lab"), (1, 5, 0, 0, "lab"))
        self.assertEqual(order_turns(Weights(cap=10), rows, FLAT, 5, 1), ((15, (1, 2)),))
        self.assertEqual(order_turns(Weights(cap=10), rows, FLAT, 15, 1), ())
        self.assertEqual(order_turns(Weights(cap=10), rows, FLAT, 14, 1), ((15, (1, 2)),))

    def test_errors(self):
        used = FLAT.with_use("lab", 5, 1)
        calls = (order_turns, lambda *args: is_order_turns(*args, ()))
        for call in calls:
            for value in NO_WEIGHTS:
                self.refused(InvalidHouse, call, value, None, None, None, None)
            for value in ODD + NO_ENTRIES + ([ONE], (ONE, ONE), tuple([(at, 0, 0, 0, "lab") for at in range(1, 62)])):
                if value != ():
                    self.refused(InvalidJob, call, WEIGHTS, value, None, None, None)
                self.refused(InvalidJob, call, WEIGHTS, (TWO, value), None, None, None)
            for value in ODD + ((("lab", "", 1),), "lab"):
                self.refused(InvalidHouse, call, WEIGHTS, (TWO,), value, None, None)
            for value in NO_INTEGERS + [-1, 0, 4, 10 ** 6 + 1, 10 ** 60]:
                self.refused(InvalidTick, call, WEIGHTS, (ONE, TWO), FLAT, value, None)
            for value in NO_INTEGERS + [-1, 0, 10 ** 6 + 1, 10 ** 60]:
                self.assertIs(self.refused(InvalidNumber, call, WEIGHTS, (TWO,), used, 5, value).given, value)
            self.refused(InvalidTick, call, WEIGHTS, ((1, 0, 0, 0, "zoo"),), used, 49, 10)
            self.assertEqual(self.refused(UnknownName, call, WEIGHTS, (TWO, (9, 0, 0, 0, "zoo"), (1, 0, 0, 0, "ape")), used, 50, 10).wanted, "zoo")
        self.assertEqual(order_turns(WEIGHTS, (TWO,), used, 50, 10), ())
        self.assertEqual(order_turns(WEIGHTS, (), used, 10 ** 6, 10 ** 6 // 5), ())
        self.assertIs(is_order_turns(WEIGHTS, (), FLAT, 0, 1, ()), True)

    def test_values_that_are_no_turns(self):
        entries = (ONE, TWO)
        self.assertIs(is_order_turns(WEIGHTS, entries, FLAT, 6, 100, ((12, (2, 1)),)), True)
        for value in ODD + ([(12, (2, 1))], ((12, (2, True)),), ((12, [2, 1]),), ([12, (2, 1)],), ((12, (2, 1), 1),), ((12,),), (12, (2, 1)), ((12, (2, 1)), None)):
            self.assertIs(is_order_turns(WEIGHTS, entries, FLAT, 6, 100, value), False, value)
        for value in ODD:
            self.assertIs(is_order_turns(WEIGHTS, entries, FLAT, 6, 100, (value,)), False)
            self.assertIs(is_order_turns(WEIGHTS, entries, FLAT, 6, 100, ((value, (2, 1)),)), False)
            self.assertIs(is_order_turns(WEIGHTS, entries, FLAT, 6, 100, ((12, value),)), False)
            self.assertIs(is_order_turns(WEIGHTS, (ONE,), FLAT, 6, 100, value), value == ())
        early = ((1, 0, 0, 0, "lab"), (2, 1, 0, 1, "lab"), (3, 1, 0, 0, "lab"))
        self.assertEqual(order_turns(Weights(cap=0, age=1), early, FLAT, 1, 1), ())
        rows = ((2, 0, 0, 0, "lab"), (1, 1, 0, 0, "lab"))
        self.assertEqual(order_turns(Weights(cap=0), rows, FLAT, 1, 1), ())
        self.assertEqual(order_turns(Weights(cap=1), rows, FLAT, 1, 1), ((2, (1, 2)),))
        self.assertIs(is_order_turns(Weights(cap=1), rows, FLAT, 1, 1, ((2, (True, 2)),)), False)
        first = ((2, 0, 0, 0, "lab"), (1, 0, 0, 1, "web"))
        self.assertIs(is_order_turns(Weights(), first, FLAT, 0, 1, ()), True)

    def test_ten_thousand_turns_and_one_more(self):
        weights, entries, accounts, tick, length = climbing(20)
        begun = time.perf_counter()
        self.assertEqual(self.refused(TooMany, order_turns, weights, entries, accounts, tick, length).most, 10000)
        self.assertLess(time.perf_counter() - begun, 3)
        every = plain_turns(weights, entries, accounts, 73000, length, 101000)
        self.assertGreater(len(every), 10001)
        for many in (10000, 10001):
            # Behind the turn that is the last but so many.
            tick = every[-many - 1][0]
            self.assertIs(is_order_turns(weights, entries, accounts, tick, length, every[-many:]), True)
            if many == 10000:
                self.assertEqual(order_turns(weights, entries, accounts, tick, length), every[-many:])
            else:
                self.assertEqual(self.refused(TooMany, order_turns, weights, entries, accounts, tick, length).most, 10000)
        self.assertIs(is_order_turns(weights, entries, accounts, tick, length, every[-10000:]), False)

    def test_sixty_entries(self):
        chance = random.Random(94)
        entries = tuple([(at, chance.randrange(300), chance.randrange(400), 0, chance.choice(("lab", "web"))) for at in range(1, 61)])
        weights, used = Weights(cap=500, size=1, place=50), FLAT.with_use("lab", 0, 1)
        turns = order_turns(weights, entries, used, 300, 100)
        self.assertEqual([turn for turn in turns if turn[0] <= 900], list(plain_turns(weights, entries, used, 300, 100, 900)))
        self.assertEqual([turn for turn, _ in turns if turn > 900], [6100])
