"""Points 10.1 to 10.6: doors and limits."""

import itertools
import random

from toldstarts.base.amounts import Amounts
from toldstarts.errors import InvalidHouse, InvalidJob, InvalidNumber, InvalidRoom, InvalidTick, Refused, UnknownName
from toldstarts.plan import limits as module
from toldstarts.plan.limits import Doors, Limits, broken_limits, is_least_broken, least_broken
from toldstarts.rank.accounts import Accounts
from toldstarts.room.rooms import Room
from helper import Case, a_job, some
from odd import ALL, EVERY, NO_TICKS, all_but, no_integers

ACCOUNTS = Accounts((("lab", "", 1), ("team", "lab", 1), ("web", "", 1)))
ROWS = ((("account", "lab"), "core", 12), (("door", "day"), "jobs", 1), (("door", "night"), "core", 8), (("person", "ada"), "gpu", 2))
LIMITS, DOORS = Limits(ACCOUNTS, ROWS), Doors((("day", 100), ("night", 500), ("week", 5000)))
JOB = a_job(account="team", doors=("day", "night"), groups=((2, ALL, some(core=4)),))
FOREIGN = a_job(account="zoo", doors=("day", "night"))


def need_of(row, job):
    """10.2, straight from its words."""
    return 1 if row[1] == "jobs" else job.total[row[1]]


def covers(row, job, door, accounts):
    where, name = row[0]
    return {"account": name in accounts.line(job.account), "person": name == job.person, "door": name == door}[where]


def plain_broken(limits, room, job, door, tick):
    """10.4, tick by tick."""
    found = []
    for index, row in enumerate(limits.rows):
        if covers(row, job, door, limits.accounts):
            ticks = [at for at in range(tick, tick + job.limit) if room.free(at)["l%d" % (index + 1)] < need_of(row, job)]
            found += [(index, ticks[0])] if ticks else []
    return tuple(found)


def plain_least(limits, doors, room, job, tick):
    """10.5, from its words."""
    sets = [(door, set([index for index, _ in plain_broken(limits, room, job, door, tick)])) for door in doors.usable(job)]
    least = [(door, some_set) for door, some_set in sets if not any([other < some_set for _, other in sets])]
    found = {}
    for door, some_set in least:
        found.setdefault(tuple(sorted(some_set)), door)
    return tuple(sorted(found.items()))


def some_case(chance):
    """Limits, doors, a room and a job."""
    rows = {}
    for _ in range(chance.randrange(9)):
        where = chance.choice((("account", "lab"), ("account", "team"), ("account", "web"), ("person", "ada"), ("person", "bob"),
                               ("door", "day"), ("door", "night"), ("door", "week"), ("door", "noon")))
        rows[(where, chance.choice(("jobs", "core", "mem")))] = chance.choice((1, 2, 3, 4, 8))
    if chance.random() < 0.5:
        rows = {(("door", name), what): 4 for name in ("day", "night", "week", "noon") for what in chance.choice((("jobs",), ("core", "jobs"), ("mem", "jobs")))}
    limits = Limits(ACCOUNTS, tuple([key + (most,) for key, most in rows.items()]))
    doors = Doors(tuple([(name, chance.choice((3, 8, 20))) for name in chance.sample(("day", "night", "week", "noon"), chance.choice((1, 3, 4)))]))
    room = Room(chance.choice((limits.amounts, limits.amounts, some(l1=3, l2=1))), period=chance.choice((1, 4)))
    for _ in range(chance.randrange(40)):
        kind, begin = "l%d" % chance.randrange(1, 9), chance.randrange(12)
        held = Amounts(((kind, chance.choice((1, 2, 4, 4))),))
        try:
            if chance.random() < 0.8:
                room = room.with_claim((begin, chance.choice((None, None, begin + 5)), held))
            else:
                room = room.with_window((begin, 1, held))
        except Refused:
            pass
    names = ("day", "night", "week", "noon")
    job = a_job(account=chance.choice(("lab", "team", "web")), person=chance.choice(("ada", "bob")),
                doors=tuple(chance.sample(names, chance.randrange(1, 5))), limit=chance.choice((1, 3, 7)),
                groups=((chance.choice((1, 2)), ALL, chance.choice((some(core=1), some(core=2), some(mem=1), some(core=1, mem=3)))),))
    return limits, doors, room, job


class Entrances(Case):
    def test_constants(self):
        self.assertEqual((module.MAX_LIMITS, module.MAX_HOUSE_DOORS), (24, 12))

    def test_doors(self):
        self.assertEqual((DOORS.names, len(DOORS), list(DOORS), str(DOORS)), (("day", "night", "week"), 3, [("day", 100), ("night", 500), ("week", 5000)], "3 doors"))
        self.assertEqual([DOORS.longest(name) for name in DOORS.names], [100, 500, 5000])
        with self.assertRaises(AttributeError):
            DOORS.names = ()
        for value in EVERY:
            self.assertIs(value in DOORS, False)
            self.assertIs(self.refused(UnknownName, DOORS.longest, value).wanted, value)
            self.assertIs(DOORS == value, False)
            self.assertIs(DOORS != value, True)
        self.assertIs("night" in DOORS, True)
        self.assertIs(DOORS == Doors(tuple(DOORS)), True)
        self.assertIs(DOORS != Doors(tuple(DOORS)), False)
        self.assertNotEqual(DOORS, Doors(tuple(DOORS)[::-1]))
        self.assertNotEqual(DOORS, Doors((("day", 101), ("night", 500), ("week", 5000))))

    def test_wrong_doors(self):
        for value in EVERY:
            self.refused(InvalidHouse, Doors, value)
            if value not in (("core", 1), ("wait", 1)):
                self.refused(InvalidHouse, Doors, (value,))
                self.refused(InvalidHouse, Doors, (("day", 5), value))
            self.refused(InvalidHouse, Doors, ((value, 0),))
            if value not in ("x", "all", "nothing"):
                self.refused(InvalidHouse, Doors, ((value, 5),))
        for value in no_integers(1, 100000):
            self.refused(InvalidHouse, Doors, (("day", value),))
        for rows in ((("day", 5), ("day", 6)), (("Day", 5),), [("day", 5)], (["day", 5],), (("day", 5, 5),), (("day",),), (("a" * 13, 5),)):
            self.refused(InvalidHouse, Doors, rows)
        twelve = tuple([("d%d" % at, at + 1) for at in range(13)])
        self.refused(InvalidHouse, Doors, twelve)
        self.assertEqual(len(Doors(twelve[:12])), 12)
        self.assertEqual(Doors((("a" * 12, 1), ("b", 100000))).longest("b"), 100000)

    def test_usable(self):
        for limit, doors, usable in ((60, ("day", "night"), ("day", "night")), (60, ("week", "day"), ("week", "day")), (100, ("day",), ("day",)),
                                     (101, ("day", "night"), ("night",)), (5001, ("week", "day"), ()), (1, ("noon",), ()), (500, ("noon", "night"), ("night",))):
            self.assertEqual(DOORS.usable(JOB.changed(limit=limit, doors=doors)), usable)
        for value in all_but(type(JOB)):
            self.refused(InvalidJob, DOORS.usable, value)


class Rows(Case):
    def test_limits(self):
        self.assertEqual((LIMITS.rows, LIMITS.accounts, str(LIMITS.amounts), len(LIMITS), str(LIMITS)), (ROWS, ACCOUNTS, "l1 12, l2 1, l3 8, l4 2", 4, "4 limits"))
        self.assertEqual((Limits(ACCOUNTS).rows, Limits(ACCOUNTS).amounts, str(Limits(ACCOUNTS))), ((), Amounts(), "0 limits"))
        many = tuple([(("person", "p%d" % at), "jobs", at + 1) for at in range(25)])
        self.refused(InvalidHouse, Limits, ACCOUNTS, many)
        full = Limits(ACCOUNTS, many[:24])
        self.assertEqual([full.amounts["l%d" % (at + 1)] for at in range(24)], list(range(1, 25)))
        self.assertEqual(len(full.amounts), 24)
        self.assertRaises(TypeError, iter, LIMITS)
        self.assertEqual(Limits(ACCOUNTS, ((("door", "x"), "jobs", 1000000), (("door", "x"), "core", 1))).amounts, some(l1=1000000, l2=1))

    def test_equality(self):
        self.assertIs(LIMITS == Limits(ACCOUNTS, ROWS), True)
        self.assertIs(LIMITS != Limits(ACCOUNTS, ROWS), False)
        for other in EVERY + (Limits(ACCOUNTS, ROWS[::-1]), Limits(ACCOUNTS, ROWS[1:]), Limits(ACCOUNTS.with_use("lab", 0, 1), ROWS)):
            self.assertIs(LIMITS == other, False)
            self.assertIs(LIMITS != other, True)

    def test_wrong_limits(self):
        for value in all_but(Accounts):
            self.refused(InvalidHouse, Limits, value, ROWS)
            self.refused(InvalidHouse, Limits, value, None)
        row = (("person", "ada"), "core", 5)
        for value in EVERY:
            if value != ():
                self.refused(InvalidHouse, Limits, ACCOUNTS, value)
            named = value if value not in ("x", "all", "nothing") else ""
            for wrong in (value, (value,) + row[1:], (("person", named),) + row[1:], ((value, "ada"),) + row[1:], row[:1] + (value, 0)):
                self.refused(InvalidHouse, Limits, ACCOUNTS, (wrong,))
                self.refused(InvalidHouse, Limits, ACCOUNTS, (row, wrong))
        for value in no_integers(1, 1000000):
            self.refused(InvalidHouse, Limits, ACCOUNTS, (row[:2] + (value,),))
        for wrong in (row + (1,), row[:2], list(row), (list(row[0]),) + row[1:], (("persons", "ada"), "core", 5), (("person", "Ada"), "core", 5),
                      (("person", "ada", "x"), "core", 5), (("person", "ada"), "core2", 5), (("person", "ada"), "nothing", 5),
                      (("person", "ada"), "abcdefghi", 5), (("person", "ada"), "", 5), (("person", "ada"), "Core", 5)):
            self.refused(InvalidHouse, Limits, ACCOUNTS, (wrong,))
        self.refused(InvalidHouse, Limits, ACCOUNTS, (row, row[:2] + (6,)))
        self.assertEqual(len(Limits(ACCOUNTS, (row, row[:1] + ("jobs", 5), (("person", "bob"),) + row[1:], (("door", "ada"),) + row[1:]))), 4)

    def test_unknown_accounts(self):
        rows = (row for row in ((("person", "zoo"), "core", 5), (("account", "zoo"), "jobs", 5), (("account", "ape"), "jobs", 5)))
        self.assertEqual(self.refused(UnknownName, Limits, ACCOUNTS, tuple(rows)).wanted, "zoo")
        self.refused(InvalidHouse, Limits, ACCOUNTS, ((("account", "zoo"), "jobs", 5), None))

    def test_need(self):
        self.assertEqual([LIMITS.need(index, JOB) for index in range(4)], [8, 1, 8, 0])
        with_tokens = JOB.changed(tokens=some(core=3, gpu=5))
        self.assertEqual([LIMITS.need(index, with_tokens) for index in range(4)], [11, 1, 11, 5])
        for value in no_integers(0, 3):
            self.assertIs(self.refused(InvalidNumber, LIMITS.need, value, None).given, value)
        for value in all_but(type(JOB)):
            self.refused(InvalidJob, LIMITS.need, 0, value)

    def test_covering(self):
        self.assertEqual([LIMITS.covering(JOB, "day"), LIMITS.covering(JOB, "night")], [(0, 1), (0, 2)])
        gpu = JOB.changed(tokens=some(gpu=3), account="web", doors=("week", "day"))
        self.assertEqual([LIMITS.covering(gpu, "day"), LIMITS.covering(gpu, "week"), LIMITS.beyond(gpu, "week")], [(1, 3), (3,), (3,)])
        self.assertEqual([LIMITS.covering(gpu.changed(person="bob"), "week"), LIMITS.covering(gpu.changed(account="lab"), "week")], [(), (0, 3)])

    def test_beyond(self):
        """A need that is just the most, and one more."""
        for count, most in ((3, 12), (3, 11), (2, 7), (2, 8), (1, 1)):
            limits = Limits(ACCOUNTS, ((("account", "lab"), "core", most), (("person", "ada"), "jobs", 1)))
            job = JOB.changed(groups=((count, ALL, some(core=4)),))
            self.assertEqual(limits.beyond(job, "day"), (0,) if 4 * count > most else ())
        self.assertEqual(LIMITS.beyond(JOB.changed(groups=((1, ALL, some(core=1000000)),)), "night"), (0, 2))

    def test_house_amounts(self):
        job = JOB.changed(tokens=some(lic=2, l1=3))
        self.assertEqual([str(LIMITS.house_amounts(JOB, "night")), str(LIMITS.house_amounts(job, "day"))], ["l1 8, l3 8", "l1 11, l2 1, lic 2"])
        self.assertEqual(LIMITS.house_amounts(JOB.changed(account="web", person="bob"), "night"), some(l3=8))
        self.assertEqual(Limits(ACCOUNTS).house_amounts(JOB, "night"), Amounts())

    def test_amounts_that_are_none(self):
        over = JOB.changed(tokens=some(l1=999993))
        self.refused(InvalidJob, LIMITS.house_amounts, over, "day")
        self.refused(InvalidJob, LIMITS.ask, DOORS, over)
        self.assertEqual(LIMITS.house_amounts(JOB.changed(tokens=some(l1=999992)), "day")["l1"], 1000000)
        kinds = tuple(sorted([("t" + "abcdefghij"[at // 10] + "abcdefghij"[at % 10], 1) for at in range(59)]))
        wide = JOB.changed(tokens=Amounts(kinds))
        self.refused(InvalidJob, LIMITS.house_amounts, wide, "day")
        self.assertEqual(len(Limits(ACCOUNTS, ROWS[1:]).house_amounts(wide, "day")), 60)
        self.assertEqual(LIMITS.covering(wide, "day"), (0, 1))

    def test_ask(self):
        self.assertEqual(LIMITS.ask(DOORS, JOB), ((JOB.groups, some(l1=8, l2=1)), (JOB.groups, some(l1=8, l3=8))))
        self.assertEqual(LIMITS.ask(DOORS, JOB.changed(limit=400)), ((JOB.groups, some(l1=8, l3=8)),))
        self.assertEqual(LIMITS.ask(DOORS, JOB.changed(limit=501)), ())
        self.assertEqual(self.refused(UnknownName, LIMITS.ask, DOORS, JOB.changed(limit=501, account="nix")).wanted, "nix")
        # A door at which nothing could be told does not count if it is not usable.
        over = JOB.changed(tokens=some(l2=1000000), limit=400)
        self.assertEqual(len(LIMITS.ask(DOORS, over)), 1)
        self.refused(InvalidJob, LIMITS.ask, DOORS, over.changed(limit=100))

    def test_errors_in_order(self):
        methods = (LIMITS.covering, LIMITS.beyond, LIMITS.house_amounts)
        for value in all_but(type(JOB)):
            for method in methods:
                self.refused(InvalidJob, method, value, "noon")
            self.refused(InvalidJob, LIMITS.ask, DOORS, value)
        for value in EVERY + ("week", ("day",)):
            for method in methods:
                self.assertIs(self.refused(UnknownName, method, FOREIGN, value).wanted, value)
        for method in methods:
            self.assertEqual(self.refused(UnknownName, method, FOREIGN, "day").wanted, "zoo")
        for value in all_but(Doors):
            self.refused(InvalidHouse, LIMITS.ask, value, None)
        self.assertEqual(self.refused(UnknownName, LIMITS.ask, DOORS, FOREIGN).wanted, "zoo")
        self.assertEqual(self.refused(UnknownName, LIMITS.ask, DOORS, FOREIGN.changed(limit=501)).wanted, "zoo")


class Broken(Case):
    def test_against_each_tick(self):
        chance, found = random.Random(101), [0, 0, 0, 0]
        for _ in range(1500):
            limits, doors, room, job = some_case(chance)
            tick = chance.randrange(12)
            for door in job.doors:
                rows = [index for index, row in enumerate(limits.rows) if covers(row, job, door, ACCOUNTS) and need_of(row, job) > 0]
                self.assertEqual(limits.covering(job, door), tuple(rows))
                self.assertEqual(limits.beyond(job, door), tuple([index for index in rows if limits.rows[index][2] < need_of(limits.rows[index], job)]))
                self.assertEqual(limits.house_amounts(job, door), Amounts(tuple(sorted([("l%d" % (index + 1), need_of(limits.rows[index], job)) for index in rows]))))
                self.assertEqual(broken_limits(limits, room, job, door, tick), plain_broken(limits, room, job, door, tick))
            least = plain_least(limits, doors, room, job, tick)
            self.assertEqual(least_broken(limits, doors, room, job, tick), least)
            self.assertIs(is_least_broken(limits, doors, room, job, tick, least), True)
            found[min(3, len(least))] += 1
            for at, (some_set, door) in enumerate(least):
                for other in (((some_set, "zzz"),), ((some_set + (9,), door),), ((list(some_set), door),), ([some_set, door],), ((some_set, door, 1),), ()):
                    self.assertIs(is_least_broken(limits, doors, room, job, tick, least[:at] + other + least[at + 1:]), False)
            for other in (least + least[:1], least[::-1], list(least)):
                self.assertIs(is_least_broken(limits, doors, room, job, tick, other), other == least)
        self.assertGreater(min(found), 20)

    def test_the_span(self):
        """A limit is broken up to the last tick of the span that begins with the start, also beyond the last tick of all."""
        room = Room(LIMITS.amounts).with_claim((59, 80, some(l2=1)))
        self.assertEqual([broken_limits(LIMITS, room, JOB, "day", tick) for tick in (0, 79, 80)], [((1, 59),), ((1, 79),), ()])
        self.assertEqual(broken_limits(LIMITS, room, JOB.changed(limit=59), "day", 0), ())
        late = Room(LIMITS.amounts, period=50).with_window((1000000, 20, some(l2=1)))
        self.assertEqual(broken_limits(LIMITS, late, JOB, "day", 1000000), ((1, 1000000),))
        late = Room(LIMITS.amounts, period=50).with_window((35, 5, some(l1=5)))
        self.assertEqual([broken_limits(LIMITS, late, JOB, "day", 1000000), broken_limits(LIMITS, late, JOB.changed(limit=35), "day", 1000000)], [((0, 1000035),), ()])

    def test_any_room(self):
        """The room can be any one: of what it does not have, nothing is free."""
        self.assertEqual(broken_limits(LIMITS, Room(Amounts()), JOB, "day", 7), ((0, 7), (1, 7)))
        self.assertEqual(broken_limits(LIMITS, Room(some(l1=7, l2=1)), JOB, "day", 7), ((0, 7),))
        self.assertEqual(broken_limits(LIMITS, Room(some(l1=8, l2=1, core=1)), JOB, "day", 7), ())
        self.assertEqual(least_broken(LIMITS, DOORS, Room(some(l1=8)), JOB, 7), (((1,), "day"), ((2,), "night")))

    def test_a_need_that_is_just_what_is_free(self):
        room = Room(some(l1=8, l2=1, l3=8)).with_claim((3, 4, some(l1=1)))
        self.assertEqual([broken_limits(LIMITS, room, JOB, "day", tick) for tick in (0, 4)], [((0, 3),), ()])

    def test_least_sets(self):
        none = JOB.changed(limit=501)
        self.assertEqual(least_broken(LIMITS, DOORS, Room(Amounts()), none, 0), ())
        self.assertIs(is_least_broken(LIMITS, DOORS, Room(Amounts()), none, 0, ()), True)
        rows = ((("account", "lab"), "jobs", 5), (("door", "night"), "jobs", 5))
        limits, room = Limits(ACCOUNTS, rows), Room(Amounts())
        self.assertEqual(least_broken(limits, DOORS, room, JOB.changed(doors=("night", "day")), 0), (((0,), "day"),))
        self.assertEqual(least_broken(limits, DOORS, room, JOB.changed(doors=("night", "day", "week")), 0), (((0,), "day"),))
        self.assertEqual(least_broken(limits, DOORS, room, JOB.changed(account="web", doors=("night", "week")), 0), (((), "week"),))
        self.assertIs(is_least_broken(limits, DOORS, room, JOB, 0, (((False,), "day"),)), False)

    def test_greater_limits(self):
        """10.6, from its words."""
        chance, many = random.Random(106), 0
        for _ in range(300):
            limits, doors, _, job = some_case(chance)
            held = Amounts(tuple(sorted([("l%d" % (at + 1), chance.choice((most, max(1, most - 1)))) for at, (_, _, most) in enumerate(limits.rows)])))
            room = Room(limits.amounts)
            room = room.with_claim((0, 3, held)) if held else room
            for least, door in least_broken(limits, doors, room, job, 0):
                for size in range(len(least) + 1):
                    for part in itertools.combinations(least, size):
                        more = Limits(ACCOUNTS, tuple([row[:2] + (1000 if at in part else row[2],) for at, row in enumerate(limits.rows)]))
                        roomy = Room(more.amounts)
                        roomy = roomy.with_claim((0, 3, held)) if held else roomy
                        if part == least:
                            self.assertEqual(broken_limits(more, roomy, job, door, 0), ())
                        else:
                            self.assertTrue(all([broken_limits(more, roomy, job, other, 0) for other in doors.usable(job)]))
                            many += 1
        self.assertGreater(many, 100)

    def test_errors(self):
        room, judge = Room(LIMITS.amounts), lambda *args: is_least_broken(*args, ())
        for value in all_but(Limits):
            self.refused(InvalidHouse, broken_limits, value, None, None, None, None)
            self.refused(InvalidHouse, broken_limits, value, room, JOB, "day", 0)
            for call in (least_broken, judge):
                self.refused(InvalidHouse, call, value, None, None, None, None)
                self.refused(InvalidHouse, call, value, DOORS, room, JOB, 0)
        for value in all_but(Doors):
            for call in (least_broken, judge):
                self.refused(InvalidHouse, call, LIMITS, value, None, None, None)
                self.refused(InvalidHouse, call, LIMITS, value, room, JOB, 0)
        for value in all_but(Room):
            self.refused(InvalidRoom, broken_limits, LIMITS, value, None, None, None)
            for call in (least_broken, judge):
                self.refused(InvalidRoom, call, LIMITS, DOORS, value, None, None)
        for value in all_but(type(JOB)):
            self.refused(InvalidJob, broken_limits, LIMITS, room, value, None, None)
            for call in (least_broken, judge):
                self.refused(InvalidJob, call, LIMITS, DOORS, room, value, None)
        for value in EVERY + ("week",):
            self.assertIs(self.refused(UnknownName, broken_limits, LIMITS, room, FOREIGN, value, None).wanted, value)
        for value in NO_TICKS:
            self.refused(InvalidTick, broken_limits, LIMITS, room, FOREIGN, "day", value)
            for call in (least_broken, judge):
                self.refused(InvalidTick, call, LIMITS, DOORS, room, FOREIGN, value)
        self.assertEqual(self.refused(UnknownName, broken_limits, LIMITS, room, FOREIGN, "day", 0).wanted, "zoo")
        for call in (least_broken, judge):
            self.assertEqual(self.refused(UnknownName, call, LIMITS, DOORS, room, FOREIGN.changed(limit=501), 0).wanted, "zoo")

    def test_values_that_are_no_least_sets(self):
        room = Room(Amounts())
        self.assertIs(is_least_broken(LIMITS, DOORS, room, JOB, 0, (((0, 1), "day"), ((0, 2), "night"))), True)
        for value in EVERY + ((((0, 1), "day"),), (((0, True), "day"), ((0, 2), "night")), (((0, 1), "day"), ((0, 2), "week"))):
            self.assertIs(is_least_broken(LIMITS, DOORS, room, JOB, 0, value), False)
