"""Points 15.1 to 15.10: a house at work; and 6.6, of rows in a house."""

import random
import time

from toldstarts.base.amounts import Amounts
from toldstarts.errors import InvalidAmounts, InvalidDeed, InvalidHouse, InvalidMachine, InvalidNumber, Refused, TooMany, UnknownName
from toldstarts.house.machines import Machine
from toldstarts.jobs.jobs import Job
from toldstarts.jobs.likes import Row
from toldstarts.plan import table
from toldstarts.plan.limits import Doors, Limits, is_least_broken, least_broken
from toldstarts.plan.places import earliest_place, is_place_bars
from toldstarts.rank.accounts import Accounts
from toldstarts.rank.scores import Weights, is_order_turns, order_turns
from toldstarts.wait.formulas import is_lost_tree, jobs_named, may_come, true_now
from toldstarts.wait.stuck import is_stuck_set, stuck_set
from toldstarts.work import deeds as forms, doing, house as module, inside, rules
from toldstarts.work.house import House
from boards import PlainBoard
from helper import Case, a_job, some
from houses import ENDS, PlainHouse, some_after, some_deed, some_job, some_setting
from odd import EVERY, all_but, no_integers
from yards import ALL, BIG, group, is_plain_bars

AMOUNT = some(core=4)
ACCOUNTS = Accounts((("lab", "", 1), ("web", "", 1)))
SETTING = ((Machine("a", AMOUNT), Machine("b", AMOUNT)), some(lic=2), Doors((("day", 100), ("night", 500))), Limits(ACCOUNTS), Weights(), 2, False, 100, ())
ONE_MACHINE = (SETTING[0][:1],) + SETTING[1:]
BIG_JOB = Job("big", account="lab", person="ada", doors=("day",), groups=((1, ALL, AMOUNT),), limit=5)
SMALL = BIG_JOB.changed(name="small", groups=((1, ALL, some(core=1)),))


def with_setting(at, value):
    return SETTING[:at] + (value,) + SETTING[at + 1:]


def done(*deeds, setting=ONE_MACHINE):
    house = House(*setting)
    for deed in deeds:
        house.do(deed)
    return house


class Making(Case):
    def test_constants(self):
        self.assertEqual((module.MAX_OPEN, module.MAX_NUMBERS, module.MAX_WAIT, module.MAX_SETTLINGS), (60, 1000, 100000, 1000))
        self.assertEqual((module.MAX_OPEN, module.MAX_NUMBERS, module.MAX_WAIT, module.MAX_SETTLINGS),
                         (doing.MOST_OPEN, doing.MOST_NUMBERS, forms.LONGEST_WAIT, inside.MOST_SETTLINGS))

    def test_new_houses(self):
        house = House(*SETTING)
        self.assertEqual((house.now, house.deeds, house.runs, house.untold, house.held, house.told, house.told_starts, house.is_settled, house.rows, house.accounts, house.setting),
                         (0, 0, (), (), (), (), {}, True, (), ACCOUNTS, SETTING))
        self.assertEqual((house.row(), house.lines(), house.later_rows(), len(house), str(house)), ((), (), (), 0, "house at 0, 0 runs, 0 told, 0 untold"))
        self.assertEqual(House(*SETTING[:5]).setting, SETTING[:5] + (5, False, 100, ()))
        self.assertEqual((house.yard.machines, house.yard.amounts, house.yard.period), (SETTING[0], some(lic=2), 100))
        self.assertRaises(TypeError, iter, house)
        for name in ("now", "deeds", "runs", "untold", "held", "told", "told_starts", "is_settled", "yard", "rows", "accounts", "setting"):
            with self.assertRaises(AttributeError):
                setattr(house, name, 1)

    def test_the_yard_of_the_settings(self):
        limits = Limits(ACCOUNTS, ((("account", "lab"), "core", 12), (("door", "day"), "jobs", 1)))
        house = House(*with_setting(3, limits)[:8], (("a", 3, 100), ("b", 99, 1)))
        self.assertEqual((house.yard.amounts, house.yard.windows), (some(l1=12, l2=1, lic=2), ((0, 3, 100), (1, 99, 1))))

    def test_errors_in_order(self):
        wrong = [None] * 9
        cases = ((0, InvalidMachine, all_but() + [(), list(SETTING[0]), SETTING[0] * 2, tuple([Machine("m%d" % at, AMOUNT) for at in range(41)])]),
                 (1, InvalidAmounts, all_but(Amounts)), (2, InvalidHouse, all_but(Doors)), (3, InvalidHouse, all_but(Limits) + [Limits(ACCOUNTS.with_use("lab", 0, 1))]),
                 (4, InvalidHouse, all_but(Weights)), (5, InvalidNumber, no_integers(1, 20)), (6, InvalidHouse, all_but(bool) + [0, 1]), (7, InvalidNumber, no_integers(1, 10000)),
                 (8, InvalidHouse, [value for value in EVERY if value != ()] + [
                     [("a", 0, 1)], (("c", 0, 1),), (("a", 0, 1), ("a", 0, 1)), (("b", 0, 1), ("a", 0, 1)), (("a", 100, 1),), (("a", -1, 1),), (("a", 0, 0),), (("a", 0, 101),), (("a", True, 1),),
                     (("a", 0, True),), (("a", 0),), (("a", 0, 1, 1),), (["a", 0, 1],), ((0, 0, 1),), (("A", 0, 1),), ((["a"], 0, 1),), tuple([("a", at, 1) for at in range(41)])]))
        for at, error, values in cases:
            for value in values:
                if at == 0 and value == SETTING[0]:
                    continue
                found = self.refused(error, House, *SETTING[:at], value, *wrong[at + 1:])
                self.refused(error, House, *with_setting(at, value))
                if error is InvalidNumber:
                    self.assertIs(found.given, value)

    def test_edges(self):
        forty = tuple([("a", at, 1) for at in range(40)])
        self.assertEqual(House(*SETTING[:8], forty).yard.windows, tuple([(0, at, 1) for at in range(40)]))
        self.assertEqual([House(*with_setting(7, period)).yard.period for period in (1, 10000)], [1, 10000])
        self.assertEqual([House(*with_setting(5, depth)).setting[5] for depth in (1, 20)], [1, 20])
        self.assertEqual(House(*SETTING[:8], (("a", 0, 1), ("a", 0, 2), ("a", 1, 1), ("b", 0, 1))).setting[8], (("a", 0, 1), ("a", 0, 2), ("a", 1, 1), ("b", 0, 1)))

    def test_kinds(self):
        names = ["t" + sign for sign in "abcdefghijklm"]
        twelve = Amounts(tuple([(name, 1) for name in names[:12]]))
        self.assertEqual(House(*with_setting(1, twelve)).yard.amounts, twelve)
        self.refused(InvalidHouse, House, *with_setting(1, Amounts(tuple([(name, 1) for name in names]))))
        self.refused(InvalidHouse, House, *with_setting(1, some(lic2=1)))
        self.refused(InvalidHouse, House, *with_setting(0, SETTING[0] + (Machine("c", some(core=1, r7=1)),)))
        # These come behind all others.
        self.refused(InvalidNumber, House, SETTING[0], some(lic2=1), *SETTING[2:5], 0)

    def test_twins_and_equality(self):
        house = done(("come", BIG_JOB), ("come", BIG_JOB), ("wait", 3))
        twin = house.twin()
        self.assertEqual((house == twin, house != twin), (True, False))
        twin.do(("wait", 1))
        self.assertEqual((house.now, twin.now, house == twin), (3, 4, False))
        self.assertEqual(house.do(("wait", 1)), ())
        self.assertEqual(house, twin)
        twin.do(("hold", 2))
        twin.do(("let", 2))
        house.do(("wait", 1))
        self.assertNotEqual(house, twin)
        for value in EVERY:
            self.assertIs(house == value, False)
            self.assertIs(house != value, True)

    def test_what_makes_houses_unlike(self):
        base = done(("come", BIG_JOB), ("come", SMALL), setting=SETTING)
        for other in (done(("come", BIG_JOB), ("come", SMALL)), done(("come", BIG_JOB), setting=SETTING), done(("come", SMALL), ("come", BIG_JOB), setting=SETTING),
                      done(("come", BIG_JOB), ("wait", 1), ("come", SMALL), setting=SETTING), done(("come", BIG_JOB), ("come", SMALL), setting=with_setting(5, 3))):
            self.assertNotEqual(base, other)
        one, other = done(("come", BIG_JOB), ("end", 1, "well")), done(("come", BIG_JOB), ("end", 1, "ill"))
        self.assertNotEqual(one, other)
        one, other = done(("fail", "a"), ("come", BIG_JOB), ("hold", 1)), done(("fail", "a"), ("come", BIG_JOB), ("mend", "a"))
        self.assertNotEqual(one, other)
        # The same jobs, but other uses.
        one = done(("come", BIG_JOB), ("wait", 2), ("leave", 1), ("wait", 1))
        other = done(("come", BIG_JOB), ("wait", 1), ("leave", 1), ("wait", 2))
        self.assertNotEqual(one, other)
        self.assertEqual(one, done(("come", BIG_JOB), ("wait", 2), ("leave", 1), ("wait", 1)))


class Deeds(Case):
    def test_examples(self):
        house = House((Machine("a", AMOUNT),), Amounts(), Doors((("day", 100),)), Limits(Accounts((("lab", "", 1),))), Weights(), 2)
        self.assertEqual(house.do(("come", BIG_JOB)), ((0, "came", 1), (0, "told", 1, 0), (0, "began", 1, (0, 0, ((0,),)))))
        self.assertEqual([house.do(("come", BIG_JOB)), house.do(("come", BIG_JOB.changed(limit=3))), house.do(("come", BIG_JOB)), house.row()],
                         [((0, "came", 2), (0, "told", 2, 5)), ((0, "came", 3), (0, "told", 3, 10)), ((0, "came", 4),), (4,)])
        self.assertEqual((house.do(("wait", 2)), house.do(("end", 1, "well"))),
                         ((), ((2, "ended", 1, "well"), (2, "drawn", 2, 5, 2), (2, "drawn", 3, 10, 7), (2, "began", 2, (2, 0, ((0,),))), (2, "told", 4, 10))))
        self.assertEqual([house.told_starts, house.accounts.use_of("lab", 0) == 8 * 2 ** 60, str(house)], [{3: 7, 4: 10}, True, "house at 2, 1 runs, 2 told, 0 untold"])
        self.assertEqual(house.do(("hold", 3)), ((2, "put off", 3, 7, None, 7), (2, "drawn", 4, 10, 7)))

    def test_forms(self):
        house = done(("come", BIG_JOB))
        before = house.twin()
        job, names = BIG_JOB, ("a", "b")
        wrong = [(), ("come",), ("come", job, 1), ("come", None), ["come", job], ("Come", job), (["come"], job), ("row", job, (1,)), ("row", job, (), None), ("row", job, (1, 1), None),
                 ("row", job, (2, 1), None), ("row", job, (10000,), None), ("row", job, (-1,), None), ("row", job, [1], None), ("row", job, (1, 2), 0), ("row", job, (1, 2), 3),
                 ("row", job, (1, 2), True), ("row", job, tuple(range(61)), None), ("row", None, (1,), None), ("end", 1), ("end", 1, "late"), ("end", 1, "left"), ("end", 1, None),
                 ("end", 1, ["well"]), ("end", "1", "well"), ("end", True, "well"), ("end", 10 ** 60, "well"), ("leave",), ("leave", None), ("leave", 1.5), ("leave", 1, 2), ("hold", (1,)),
                 ("let", "a"), ("raise", False), ("take", None), ("take", 1, 2), ("fail",), ("fail", 1), ("fail", "A"), ("fail", "a01"), ("fail", ["a"]), ("mend", None), ("mend", ("a",)),
                 ("shut", "a", 0, 1), ("shut", (), 0, 1), ("shut", ("b", "a"), 0, 1), ("shut", ("a", "a"), 0, 1), ("shut", ["a"], 0, 1), ("shut", ("A",), 0, 1), ("shut", (1,), 0, 1),
                 ("shut", names, -1, 1), ("shut", names, True, 1), ("shut", names, None, 1), ("shut", names, 0, 1000001), ("shut", names, 0, False), ("shut", names, 0), ("shut", names, 0, 1, 1),
                 ("open", names, 0, "1"), ("open", (), 0, 1), ("open", ("m10", "m9"), 0, 1), ("wait", 0), ("wait", 100001), ("wait", -1), ("wait", True), ("wait", None), ("wait",), ("wait", 1, 1),
                 ("stay", 1), ("", 1), (None,)]
        for value in [value for value in EVERY if value not in (("come", a_job()), ("wait", 1))] + wrong:
            self.refused(InvalidDeed, house.do, value)
        self.assertEqual((house, house.deeds), (before, 1))

    def test_right_forms(self):
        house = House(*SETTING)
        for deed, error in ((("end", -5, "well"), UnknownName), (("end", 10 ** 60 - 1, "ill"), UnknownName), (("shut", ("b", "m", "m9", "m10"), 5, 5), UnknownName), (("open", ("a",), 9, 3), UnknownName),
                            (("fail", "zz9999"), UnknownName), (("take", 0), UnknownName), (("shut", ("a", "b"), 0, 1000000), None), (("wait", 100000), None), (("wait", 1), None),
                            (("row", BIG_JOB, tuple(range(9940, 10000)), 60), None)):
            if error is None:
                house.do(deed)
            else:
                self.refused(error, house.do, deed)
        self.assertEqual((house.deeds, len(house)), (4, 60))

    def test_unknown_names(self):
        house = done(("come", BIG_JOB), setting=SETTING)
        for number in (0, -1, 2, 10 ** 59):
            for deed in (("end", number, "well"), ("leave", number), ("hold", number), ("let", number), ("raise", number), ("take", number)):
                self.assertEqual(self.refused(UnknownName, house.do, deed).wanted, number)
        for deed, wanted in ((("fail", "c"), "c"), (("mend", "a0"), "a0"), (("shut", ("a", "c", "d"), 0, 5), "c"), (("open", ("a0", "b"), 0, 5), "a0"), (("shut", ("b", "c"), 7, 5), "c"),
                             (("open", ("a", "b"), 0, 5), ("a", 0, 5)), (("open", ("b",), 5, None), ("b", 5, None))):
            self.assertEqual(self.refused(UnknownName, house.do, deed).wanted, wanted)
        house.do(("shut", ("b",), 5, None))
        self.assertEqual(self.refused(UnknownName, house.do, ("open", ("a", "b"), 5, None)).wanted, ("a", 5, None))
        house.do(("fail", "b"))
        self.assertEqual(self.refused(UnknownName, house.do, ("open", ("b",), 0, None)).wanted, ("b", 0, None))
        for call in (house.job, house.state, house.stands, house.why):
            for value in EVERY + (2, 0, -1):
                if value != 1 or isinstance(value, bool):
                    self.assertIs(self.refused(UnknownName, call, value).wanted, value)
        for value in EVERY + (2,):
            self.assertIs(self.refused(UnknownName, house.earlier, value).wanted, value)
            self.assertIs(self.refused(UnknownName, house.bars, value).wanted, value)
        self.assertEqual([value for value in EVERY if value in house], [1])

    def reason(self, house, deed):
        """The reason for which a deed is refused, behind which nothing has changed."""
        before = house.twin()
        reason = self.refused(Refused, house.do, deed).reason
        self.assertEqual((house == before, house.deeds, house.accounts), (True, before.deeds, before.accounts))
        return reason

    def test_refused_comers(self):
        limits = Limits(ACCOUNTS, ((("account", "lab"), "core", 3), (("door", "day"), "jobs", 1), (("door", "night"), "lic", 1)))
        house = House(*with_setting(3, limits))
        cases = ((dict(groups=((1, ALL, some(core=9, mem2=1)), (1, ALL, some(c3=1)))), ("kinds", "c3")), (dict(tokens=some(a1=1, core=1), account="zoo"), ("kinds", "a1")),
                 (dict(account="zoo", doors=("week",)), ("account", "zoo")), (dict(limit=101), ("doors",)), (dict(doors=("week",)), ("doors",)),
                 (dict(), ("limits", (("day", (0,)),))), (dict(doors=("night", "week", "day"), tokens=some(lic=2)), ("limits", (("night", (0, 2)), ("day", (0,))))),
                 (dict(account="web", doors=("day", "night"), tokens=some(lic=3)), ("never",)), (dict(account="web", groups=((1, BIG, some(core=1)),)), ("never",)),
                 (dict(account="web", groups=((3, ALL, some(core=1)),)), ("never",)), (dict(account="web", groups=((1, ALL, some(core=5)),)), ("never",)), (dict(account="web", tokens=some(gpu=1)), ("never",)))
        for wishes, reason in cases:
            job = BIG_JOB.changed(**wishes)
            self.assertEqual(self.reason(house, ("come", job)), reason)
            self.assertEqual(self.reason(house, ("row", job, (1, 2), 1)), reason)
        # One door at which no limit is beyond is enough.
        self.assertEqual(house.do(("come", BIG_JOB.changed(account="web", doors=("night", "day"), tokens=some(lic=2))))[1], (0, "told", 1, 0))
        self.assertEqual(house.yard.places[1][0][1], 1)

    def test_never_looks_at_the_settings_alone(self):
        house = House(*with_setting(8, (("b", 0, 90),)))
        house.do(("shut", ("a", "b"), 0, None))
        self.assertEqual(house.do(("come", BIG_JOB)), ((0, "came", 1),))
        self.assertEqual((house.untold, house.row(), house.why(1)[0][1][0]), ((1,), (1,), None))
        both = BIG_JOB.changed(groups=((2, ALL, AMOUNT),), limit=10)
        self.assertEqual(house.do(("come", both)), ((0, "came", 2),))
        self.assertEqual(self.reason(house, ("come", both.changed(limit=11))), ("never",))

    def test_places_from_the_tick_0_on_alone(self):
        """What fits in the settings at the tick 0 alone may come at any tick, and is never told when this is over."""
        house = House(*ONE_MACHINE[:7], 10, (("a", 5, 10),))
        early, late = house.twin(), house.twin()
        self.assertEqual(early.do(("come", BIG_JOB)), ((0, "came", 1), (0, "told", 1, 0), (0, "began", 1, (0, 0, ((0,),)))))
        self.assertEqual(self.reason(house, ("come", BIG_JOB.changed(limit=6))), ("never",))
        late.do(("wait", 1))
        self.assertEqual((late.do(("come", BIG_JOB)), late.untold), (((1, "came", 1),), (1,)))

    def test_filling_goes_on_with_those_that_wait_for_a_begin(self):
        """A round in which jobs only begin is not the last one: others may wait for just that."""
        house = done(("come", SMALL.changed(groups=((1, ALL, some(core=2)),), limit=9)), ("come", BIG_JOB), ("come", SMALL.changed(after=("begun", 4))), setting=ONE_MACHINE[:5] + (1, True))
        self.assertEqual((house.runs, house.told_starts, house.untold), ((1,), {2: 9}, (3,)))
        self.assertEqual(house.do(("come", SMALL)), ((0, "came", 4), (0, "began", 4, (0, 0, ((0,),))), (0, "began", 3, (0, 0, ((0,),)))))

    def test_parts_that_are_none(self):
        kinds = Amounts(tuple([("t" + "abcdefghijklmnopqrstuvwxyz"[at // 26] + "abcdefghijklmnopqrstuvwxyz"[at % 26], 1) for at in range(60)]))
        wide = BIG_JOB.changed(groups=((1, ALL, kinds),))
        machine = Machine("w", kinds)
        house = House(*with_setting(0, (machine,)))
        self.assertEqual(house.do(("row", wide, (1, 2), None))[:2], ((0, "came", 1), (0, "came", 2)))
        self.assertEqual(self.reason(house, ("row", wide, (1, 2), 1)), ("never",))
        # Its amounts of the house would have too many kinds.
        limited = House((machine,), SETTING[1], SETTING[2], Limits(ACCOUNTS, ((("person", "ada"), "jobs", 5),)), *SETTING[4:])
        self.assertEqual(self.reason(limited, ("come", BIG_JOB.changed(groups=((1, ALL, Amounts()),), tokens=kinds))), ("never",))

    def test_refused_by_standing(self):
        house = done(("come", BIG_JOB), ("come", BIG_JOB), ("come", BIG_JOB), ("come", BIG_JOB), ("come", BIG_JOB), ("leave", 5), ("hold", 4))
        self.assertEqual([house.stands(number) for number in range(1, 6)], ["runs", "told", "told", "untold", "over"])
        for deed, reason in ((("end", 2, "well"), ("stands", 2, "told")), (("end", 4, "ill"), ("stands", 4, "untold")), (("end", 5, "ill"), ("stands", 5, "over")), (("leave", 5), ("stands", 5, "over")),
                             (("raise", 1), ("stands", 1, "runs")), (("take", 1), ("stands", 1, "runs")), (("hold", 1), ("stands", 1, "runs")), (("raise", 5), ("stands", 5, "over")),
                             (("take", 5), ("stands", 5, "over")), (("hold", 5), ("stands", 5, "over")), (("hold", 4), ("held", 4)), (("let", 1), ("held", 1)), (("let", 2), ("held", 2)),
                             (("let", 5), ("held", 5)), (("raise", 4), ("ready", 4)), (("take", 4), ("ready", 4))):
            self.assertEqual(self.reason(house, deed), reason)
        house.do(("let", 4))
        self.assertEqual([self.reason(house, ("raise", 4)), self.reason(house, ("take", 4)), self.reason(house, ("take", 2))], [("depth",), ("none", 4), ("none", 2)])
        house.do(("leave", 4))
        self.assertEqual([self.reason(house, ("leave", 4)), house.state(4), house.held], [("stands", 4, "over"), "left", ()])

    def test_refused_machines(self):
        house = done(("come", BIG_JOB), ("come", BIG_JOB), setting=SETTING)
        self.assertEqual(house.runs, (1, 2))
        for deed in (("shut", ("a",), 5, 5), ("shut", ("a",), 5, 4)):
            self.refused(InvalidDeed, house.do, deed)
        self.assertEqual([self.reason(house, ("shut", ("a", "b"), 0, 9)), self.reason(house, ("shut", ("b",), 4, None)), self.reason(house, ("mend", "a"))],
                         [("runs", (1, 2)), ("runs", (2,)), ("failed", "a")])
        house.do(("shut", ("b",), 5, 9))
        self.assertEqual([self.reason(house, ("shut", ("a", "b"), 5, 9)), self.reason(house, ("shut", ("b",), 5, 9))], [("twice", "b"), ("twice", "b")])
        house.do(("wait", 3))
        self.refused(InvalidDeed, house.do, ("shut", ("b",), 2, 9))
        self.assertEqual(self.reason(house, ("shut", ("a", "b"), 4, 9)), ("runs", (1, 2)))
        house.do(("fail", "a"))
        self.assertEqual([self.reason(house, ("fail", "a")), self.reason(house, ("shut", ("a",), 3, None))], [("twice", "a"), ("twice", "a")])

    def test_never_by_raising(self):
        house = done(("shut", ("a",), 0, None), ("come", BIG_JOB))
        self.assertEqual(self.reason(house, ("raise", 1)), ("never", 1))
        self.assertEqual(self.reason(house, ("take", 1)), ("none", 1))

    def test_as_many_as_there_can_be(self):
        house = done(("row", BIG_JOB, tuple(range(59)), None))
        for deed in (("row", BIG_JOB, (1, 2), None), ("row", BIG_JOB, tuple(range(60)), 1)):
            self.assertEqual(self.refused(TooMany, house.do, deed).most, 60)
        self.assertEqual(self.reason(house, ("row", BIG_JOB.changed(account="zoo"), (1, 2), None)), ("account", "zoo"))
        house.do(("come", BIG_JOB))
        self.assertEqual(self.refused(TooMany, house.do, ("come", BIG_JOB)).most, 60)
        house.do(("leave", 7))
        self.assertEqual((house.do(("come", BIG_JOB))[0], len(house)), ((0, "came", 61), 61))

    def test_a_thousand_numbers_and_one_more(self):
        house = House(*ONE_MACHINE)
        for at in range(20):
            house.do(("row", BIG_JOB, tuple(range(50)), None))
            if at < 19:
                for number in range(50 * at + 1, 50 * at + 51):
                    house.do(("leave", number))
        self.assertEqual((len(house), len(house.lines()), house.lines()[0]), (1000, 22, "1.[0-49] over"))
        house.do(("leave", 1000))
        self.assertEqual(self.refused(TooMany, house.do, ("come", BIG_JOB)).most, 1000)
        self.assertEqual(self.refused(TooMany, house.do, ("row", BIG_JOB, tuple(range(11)), None)).most, 1000)
        self.assertEqual(self.refused(TooMany, house.do, ("row", BIG_JOB, tuple(range(12)), None)).most, 60)
        self.assertEqual(house.job(1000), BIG_JOB)

    def test_twenty_four_rows_with_an_at_once_and_one_more(self):
        limits = Limits(ACCOUNTS, tuple([(("person", "p%d" % at), "jobs", 1) for at in range(24)]))
        tokens = Amounts(tuple([("t" + sign, 1) for sign in "abcdefghijkl"]))
        house = House(ONE_MACHINE[0], tokens, ONE_MACHINE[2], limits, *ONE_MACHINE[4:])
        for _ in range(24):
            house.do(("row", SMALL, (1, 2), 1))
        self.assertEqual(len(house.yard.amounts), 60)
        self.assertEqual(self.refused(TooMany, house.do, ("row", SMALL, (1,), 1)).most, 24)
        self.assertEqual(len(house.do(("row", SMALL, (1,), None))), 1)
        self.assertEqual(self.reason(house, ("row", SMALL.changed(limit=101), (1,), 1)), ("doors",))

    def test_waits_and_ticks(self):
        house = House(*SETTING)
        for _ in range(9):
            self.assertEqual(house.do(("wait", 100000)), ())
        house.do(("wait", 99999))
        self.assertEqual(house.now, 999999)
        self.assertEqual(self.refused(TooMany, house.do, ("wait", 2)).most, 1000000)
        self.assertEqual((house.do(("wait", 1)), house.now, house.deeds), ((), 1000000, 11))
        self.assertEqual(self.refused(TooMany, house.do, ("wait", 1)).most, 1000000)
        self.assertEqual((house.do(("come", BIG_JOB))[2], house.deeds), ((1000000, "began", 1, (1000000, 0, ((0,),))), 12))
        self.assertEqual((self.refused(TooMany, house.do, ("wait", 5)).most, house.now, house.deeds), (1000000, 1000000, 12))

    def test_a_thousand_settlings_and_one_more(self):
        house = House(*SETTING[:7], 100, (("a", 0, 50),))
        self.assertEqual(self.refused(TooMany, house.do, ("wait", 100000)).most, 1000)
        self.assertEqual((house.do(("wait", 99950)), house.now), ((), 99950))
        both = House(*SETTING[:7], 100, (("a", 0, 50), ("b", 0, 50), ("b", 30, 20)))
        self.assertEqual((both.do(("wait", 99950)), both.now), ((), 99950))
        # What is met first is told.
        late = House(*SETTING[:7], 1, (("a", 0, 1),))
        for _ in range(998):
            late.do(("wait", 1000))
        self.assertEqual([self.refused(TooMany, late.do, ("wait", ticks)).most for ticks in (1001, 3000)], [1000, 1000])
        late.do(("wait", 1000))
        self.assertEqual(self.refused(TooMany, late.do, ("wait", 1001)).most, 1000000)
        late.do(("wait", 500))
        self.assertEqual([self.refused(TooMany, late.do, ("wait", ticks)).most for ticks in (501, 1000, 2000)], [1000000, 1000000, 1000000])

    def test_settling_on_the_way(self):
        """At ends of runs, shut spans and windows, at told starts, and at the last tick."""
        house = done(("come", BIG_JOB), ("come", BIG_JOB.changed(limit=3)), ("come", BIG_JOB))
        self.assertEqual(house.do(("wait", 20)), ((5, "ended", 1, "late"), (5, "began", 2, (5, 0, ((0,),))), (8, "ended", 2, "late"), (8, "began", 3, (8, 0, ((0,),))), (13, "ended", 3, "late")))
        house = done(("shut", ("a",), 0, 7), ("come", BIG_JOB))
        self.assertEqual(house.do(("wait", 20)), ((7, "began", 1, (7, 0, ((0,),))), (12, "ended", 1, "late")))

    def test_spans_that_end_let_jobs_begin(self):
        """A job that fills a gap begins when a window ends."""
        setting = ONE_MACHINE[:5] + (1, True, 10, (("a", 0, 4),))
        house = done(("come", BIG_JOB.changed(limit=6)), ("come", SMALL.changed(limit=2)), setting=setting)
        self.assertEqual(house.told_starts, {1: 4})
        self.assertEqual(house.do(("wait", 20)), ((4, "began", 1, (4, 0, ((0,),))), (4, "told", 2, 14), (10, "ended", 1, "late"), (14, "began", 2, (14, 0, ((0,),))), (16, "ended", 2, "late")))

    def test_uses(self):
        house = done(("come", BIG_JOB.changed(limit=100)), ("come", SMALL.changed(account="web", limit=100)), setting=SETTING[:7] + (10, ()))
        house.do(("wait", 25))
        self.assertEqual([house.accounts.use_of(name, 2) for name in ("lab", "web")], [4 * 2 ** 58 * (10 + 20 + 20), 2 ** 58 * (10 + 20 + 20)])
        house.do(("end", 1, "well"))
        house.do(("wait", 5))
        self.assertEqual([house.accounts.use_of(name, 3) * 8 // 2 ** 60 for name in ("lab", "web")], [4 * (10 + 20 + 20), 10 + 20 + 40])
        self.assertEqual(house.accounts.newest, 2)
        # With periods of one tick nothing older than sixty of them counts, and they are not gone through one by one.
        house = done(("come", BIG_JOB.changed(doors=("night",), limit=500)), ("wait", 400), setting=ONE_MACHINE[:7] + (1, ()))
        plain = ACCOUNTS
        for tick in range(400):
            plain = plain.with_use("lab", tick, 4)
        self.assertEqual((house.accounts, house.accounts.use_of("lab", 399), house.accounts.newest), (plain, 4 * (2 ** 61 - 1), 399))

    def test_take(self):
        job = BIG_JOB.changed(limit=50)
        house = done(("come", job.changed(grade=1)), ("come", job.changed(grade=2)), ("wait", 3), ("come", job.changed(grade=2)), ("come", job.changed(grade=1)), setting=SETTING)
        self.assertEqual((house.runs, house.told_starts), ((1, 2), {3: 50, 4: 50}))
        self.assertEqual(self.reason(house, ("take", 4)), ("none", 4))
        self.assertEqual(house.do(("take", 3)), ((3, "back", 1), (3, "began", 3, (3, 0, ((0,),))), (3, "told", 1, 53)))
        self.assertEqual((house.runs, house.state(1), house.stands(1), house.told_starts), ((2, 3), "begun", "told", {1: 53, 4: 50}))

    def test_take_without_taking(self):
        """Perhaps none is put back; and the depth does not matter."""
        house = done(("come", SMALL), ("come", BIG_JOB), ("come", BIG_JOB), ("come", SMALL), ("come", SMALL.changed(limit=50)))
        self.assertEqual((house.told_starts, house.row()), ({2: 5, 3: 10}, (4, 5)))
        self.assertEqual((house.do(("take", 4)), house.runs, house.told), (((0, "began", 4, (0, 0, ((0,),))),), (1, 4), (2, 3)))
        # It would be in the way of a told job, whose place stays.
        self.assertEqual(self.reason(house, ("take", 5)), ("none", 5))

    def test_a_told_job_takes(self):
        house = done(("come", BIG_JOB), ("come", SMALL), ("come", BIG_JOB.changed(grade=1, limit=3)), ("come", SMALL))
        self.assertEqual(house.told_starts, {2: 5, 3: 10})
        self.assertEqual(house.do(("take", 3)), ((0, "back", 1), (0, "began", 3, (0, 0, ((0,),))), (0, "drawn", 2, 5, 3), (0, "told", 1, 8)))

    def test_failures(self):
        job = BIG_JOB.changed(limit=50)
        house = done(("come", job), ("come", job), ("wait", 3), ("come", job), ("come", job), setting=SETTING)
        self.assertEqual(house.do(("fail", "b")), ((3, "back", 2), (3, "put off", 4, 50, 100, 6)))
        self.assertEqual((house.stands(2), house.state(2), house.row(), house.told), ("untold", "begun", (2,), (3, 4)))
        self.assertEqual(house.do(("mend", "b")), ((3, "drawn", 3, 50, 3), (3, "drawn", 4, 100, 50), (3, "began", 3, (3, 0, ((1,),))), (3, "told", 2, 53)))
        self.assertEqual(house.do(("leave", 2)), ((3, "ended", 2, "gone"),))

    def test_shut_and_opened_machines(self):
        job = BIG_JOB.changed(limit=50)
        house = done(("come", job), ("come", job), ("come", job), ("come", job), setting=SETTING)
        self.assertEqual(house.told_starts, {3: 50, 4: 50})
        self.assertEqual(house.do(("shut", ("a", "b"), 60, 70)), ((0, "put off", 3, 50, 70, 5), (0, "put off", 4, 50, 70, 5)))
        self.assertEqual(house.do(("shut", ("b",), 80, None)), ((0, "put off", 4, 70, 120, 6),))
        self.assertEqual(house.do(("shut", ("a",), 100, None)), ((0, "put off", 3, 70, None, 7), (0, "put off", 4, 120, None, 7)))
        self.assertEqual((house.untold, house.row(), house.why(3)[0][1][0]), ((3, 4), (3, 4), None))
        self.assertEqual(house.do(("open", ("a", "b"), 60, 70)), ((0, "told", 3, 50),))
        self.assertEqual(house.do(("open", ("b",), 80, None)), ((0, "told", 4, 50),))
        self.assertEqual(house.yard.shut_spans, ((0, 100, None),))

    def test_holding(self):
        house = done(("come", BIG_JOB), ("come", BIG_JOB), ("come", BIG_JOB), ("come", BIG_JOB))
        self.assertEqual((house.do(("hold", 4)), house.held, house.untold), ((), (4,), (4,)))
        self.assertEqual(house.do(("hold", 2)), ((0, "put off", 2, 5, None, 6), (0, "drawn", 3, 10, 5)))
        self.assertEqual((house.held, house.row(), house.state(2)), ((2, 4), (), "waiting"))
        self.assertEqual(house.do(("let", 4)), ((0, "told", 4, 10),))
        self.assertEqual(house.do(("leave", 2)), ((0, "ended", 2, "left"),))
        self.assertEqual((house.held, house.stands(2)), ((), "over"))

    def test_raising(self):
        house = done(("come", BIG_JOB), ("come", BIG_JOB), ("come", BIG_JOB.changed(limit=3)), ("come", SMALL), setting=ONE_MACHINE[:5] + (3, False, 100, ()))
        self.assertEqual(house.told_starts, {2: 5, 3: 10, 4: 13})
        self.assertEqual(house.do(("raise", 3)), ((0, "told", 3, 5), (0, "put off", 2, 5, 8, 5)))
        self.assertEqual(house.do(("raise", 3)), ((0, "told", 3, 5),))
        self.assertEqual((house.told, house.told_starts), ((3, 2, 4), {2: 8, 3: 5, 4: 13}))
        house.do(("come", BIG_JOB))
        house.do(("leave", 4))
        self.assertEqual(house.do(("come", SMALL.changed(limit=1))), ((0, "came", 6),))
        house.do(("leave", 3))
        self.assertEqual(house.told_starts, {2: 5, 5: 10, 6: 15})

    def test_a_raised_job_can_come_before_others_and_draw_them(self):
        """Only those whose start is greater are put off; one whose start is less is drawn."""
        house = House(*SETTING[:5], 3)
        for limit in (5, 6, 5, 5, 2):
            house.do(("come", BIG_JOB.changed(limit=limit)))
        self.assertEqual(house.told_starts, {3: 5, 4: 6, 5: 10})
        self.assertEqual(house.do(("shut", ("a",), 7, 30)), ((0, "put off", 3, 5, 11, 6), (0, "drawn", 5, 10, 5)))

    def test_ends_and_states(self):
        house = done(("come", BIG_JOB), ("come", BIG_JOB), ("come", BIG_JOB), ("come", BIG_JOB), ("end", 1, "well"), ("end", 2, "ill"), ("wait", 5), ("leave", 4))
        self.assertEqual([(house.state(number), house.stands(number)) for number in range(1, 5)], [("well", "over"), ("ill", "over"), ("late", "over"), ("gone", "over")])
        self.assertEqual(house.lines(), ("1 over", "2 over", "3 over", "4 over"))

    def test_formulas(self):
        """A job waits for others; numbers that have not come yet wait."""
        after = BIG_JOB.changed(after=("and", (("over", 1), ("begun", 3))), limit=2)
        house = done(("come", BIG_JOB), ("come", after))
        self.assertEqual((house.row(), house.untold, house.why(2)[0]), ((), (2,), ("after", None)))
        self.assertEqual(house.do(("come", BIG_JOB)), ((0, "came", 3), (0, "told", 3, 5)))
        self.assertEqual(house.do(("end", 1, "ill")), ((0, "ended", 1, "ill"), (0, "drawn", 3, 5, 0), (0, "began", 3, (0, 0, ((0,),))), (0, "told", 2, 5)))
        # One that has begun lets others be ready at the same tick.
        house = done(("come", SMALL.changed(after=("begun", 2))))
        self.assertEqual(house.do(("come", SMALL)), ((0, "came", 2), (0, "told", 2, 0), (0, "began", 2, (0, 0, ((0,),))), (0, "told", 1, 0), (0, "began", 1, (0, 0, ((0,),)))))

    def test_rows_of_the_house(self):
        house = House(*SETTING)
        self.assertEqual(house.do(("row", BIG_JOB, (3, 5, 9), 1)), ((0, "came", 1), (0, "came", 2), (0, "came", 3), (0, "told", 1, 0), (0, "told", 2, 5), (0, "began", 1, (0, 0, ((0,),))), (0, "told", 3, 10)))
        self.assertEqual((house.rows, house.yard.amounts, house.job(2)), ((Row(1, (3, 5, 9), at_once=1),), some(lic=2, r1=1), Row(1, (3, 5, 9), at_once=1).part(BIG_JOB)))
        house.do(("come", SMALL))
        house.do(("row", SMALL, (0,), None))
        self.assertEqual((house.lines(), [row.first for row in house.rows]), (("1.3 runs", "1.[5,9] told", "4 untold", "5.0 untold"), [1, 5]))

    def test_the_row_is_ranked(self):
        setting = SETTING[:4] + (Weights(age=1, grade=5, place=3), 1, False, 10, ())
        house = House(*setting)
        both = BIG_JOB.changed(groups=((2, ALL, AMOUNT),), limit=50)
        for account, grade in (("lab", 0), ("lab", 0), ("lab", 0), ("web", 0), ("lab", 2), ("web", 1)):
            house.do(("come", both.changed(account=account, grade=grade)))
            house.do(("wait", 1))
        # At tick 6 lab has used something: web comes first in the fair order.
        self.assertEqual(house.accounts.fair_order(0), ("web", "lab"))
        scores = {3: 4 + 3, 4: 3 + 6, 5: 2 + 10 + 3, 6: 1 + 5 + 6}
        self.assertEqual(house.row(), tuple(sorted(scores, key=lambda number: (-scores[number], number))))
        self.assertEqual(house.why(4)[-1], ("row", (2, 5, 6)))
        entries = tuple([(number, number - 1, 8, house.job(number).grade, house.job(number).account) for number in range(3, 7)])
        self.assertEqual(house.later_rows(), order_turns(Weights(age=1, grade=5, place=3), entries, house.accounts, 6, 10))
        self.assertTrue(is_order_turns(Weights(age=1, grade=5, place=3), entries, house.accounts, 6, 10, house.later_rows()))

    def test_the_least_weight_of_places(self):
        house = House(*SETTING[:4], Weights(age=0, place=1), 1, False, 10)
        both = BIG_JOB.changed(groups=((2, ALL, AMOUNT),), limit=50)
        for account in ("web", "web", "web", "lab"):
            house.do(("come", both.changed(account=account)))
        self.assertEqual((house.row(), house.twin().do(("leave", 2))[-1]), ((4, 3), (0, "told", 4, 50)))

    def test_earlier_and_bars(self):
        house = done(("come", BIG_JOB), ("come", BIG_JOB))
        self.assertEqual((house.earlier(2), house.bars(2)[-1][1]), (None, 5))
        self.refused(UnknownName, house.bars, 1)
        self.refused(UnknownName, house.earlier, 1)

    def test_reasons_in_order(self):
        limits = Limits(ACCOUNTS, ((("account", "lab"), "jobs", 1),))
        house = House(*ONE_MACHINE[:3], limits, *ONE_MACHINE[4:])
        house.do(("come", BIG_JOB))
        house.do(("come", BIG_JOB.changed(after=("over", 2))))
        house.do(("hold", 2))
        reasons = house.why(2)
        self.assertEqual([word for word, _ in reasons], ["held", "after", "stuck", "limits", "place"])
        self.assertEqual((dict(reasons)["stuck"], dict(reasons)["limits"], dict(reasons)["place"][0]), ((2,), (((0,), "day"),), 5))
        house.do(("come", BIG_JOB.changed(account="web")))
        self.assertEqual([word for word, _ in house.why(3)], ["place"])
        house.do(("come", BIG_JOB.changed(account="web")))
        house.do(("come", BIG_JOB.changed(account="web")))
        self.assertEqual(house.why(5)[1:], (("row", (3, 4)),))
        self.assertEqual(house.why(1), ())
        house.do(("leave", 2))
        self.assertEqual(house.why(2), ())

    def test_reasons_of_lost_formulas(self):
        house = done(("come", BIG_JOB), ("end", 1, "ill"), ("come", BIG_JOB.changed(after=("well", 1))))
        word, tree = house.why(2)[0]
        self.assertEqual((word, tree, [word for word, _ in house.why(2)]), ("after", ("lost",), ["after", "stuck"]))

    def test_too_many_ticks(self):
        wide = House(SETTING[0], SETTING[1], Doors((("day", 100000),)), *SETTING[3:7], 1, (("a", 0, 1),))
        wide.do(("come", BIG_JOB.changed(limit=19999)))
        wide.do(("come", BIG_JOB.changed(limit=1)))
        before = wide.twin()
        self.assertEqual(self.refused(TooMany, wide.do, ("come", BIG_JOB)).most, 20000)
        self.assertEqual((wide, wide.deeds), (before, 2))
        # Told jobs count for the reasons of all others.
        wide = House(SETTING[0], SETTING[1], Doors((("day", 100000),)), *SETTING[3:5], 1, False, 1, (("a", 0, 1),))
        for limit in (19999, 5, 5):
            wide.do(("come", BIG_JOB.changed(limit=limit)))
        self.assertEqual((wide.told_starts, wide.why(2)[0][1][0]), ({2: 19999}, 19999))
        self.assertEqual(self.refused(TooMany, wide.why, 3).most, 20000)
        far = House(*SETTING[:8])
        for _ in range(10):
            far.do(("wait", 99995))
        far.do(("come", BIG_JOB.changed(tokens=some(lic=2), limit=100)))
        far.do(("come", BIG_JOB.changed(tokens=some(lic=2))))
        self.assertEqual(self.refused(TooMany, far.why, 2).most, 1000000)
        self.assertEqual((far.why(1), far.told_starts), ((), {2: 1000050}))


class Plain(Case):
    def test_against_a_plain_house(self):
        chance, words, many = random.Random(151), {}, {}
        for _ in range(130):
            setting = some_setting(chance)
            house, plain, starts = House(*setting), PlainHouse(*setting), {}
            for _ in range(25):
                deed = some_deed(chance, house)
                if not self.refused_alike(house, plain, deed):
                    events = house.do(deed)
                    self.assertEqual(events, plain.do(deed), deed)
                    self.keep_starts(house, deed, events, starts)
                    many[deed[0]] = many.get(deed[0], 0) + 1
                    for event in events:
                        words[event[1]] = words.get(event[1], 0) + 1
                self.compare(house, plain)
                for number in chance.sample(range(1, len(house) + 1), min(1, len(house))):
                    self.check_why(house, plain, number, words)
        self.assertEqual((len(many), len([word for word in words if not word.startswith("why")])), (13, 7))
        self.assertEqual(len([word for word in words if word.startswith("why")]), 6)
        self.assertGreater(min(list(many.values()) + list(words.values())), 2, (many, words))

    def test_against_a_plain_house_that_draws_little_at_once(self):
        """The house settles as often as the board has to draw its told jobs together further."""
        chance, many = random.Random(152), {}
        self.addCleanup(setattr, table, "MOST_MOVES", table.MOST_MOVES)
        self.addCleanup(setattr, PlainBoard, "most_moves", PlainBoard.most_moves)
        for at in range(200):
            table.MOST_MOVES = PlainBoard.most_moves = 1 + at % 2
            setting = ONE_MACHINE[:4] + (Weights(age=0, grade=1), chance.randrange(1, 6), chance.random() < 0.3, 100, ())
            house, plain = House(*setting), PlainHouse(*setting)
            for _ in range(30):
                number = chance.randrange(1, len(house) + 2)
                job = SMALL.changed(groups=((1, ALL, some(core=chance.choice((2, 4, 4)))),), limit=chance.randrange(1, 9), grade=chance.randrange(9),
                                    after=("begun", number) if number <= len(house) and chance.random() < 0.4 else None)
                deed = ("come", job) if len(house) == 0 or chance.random() < 0.5 else chance.choice((("wait", 1), ("wait", 2), ("leave", number), ("end", (house.runs + (1,))[0], "well"), ("fail", "a"), ("mend", "a")))
                if (deed[0] == "leave" and number > len(house)) or self.refused_alike(house, plain, deed):
                    continue
                events = house.do(deed)
                self.assertEqual(events, plain.do(deed), deed)
                self.assertEqual((house.told_starts, house.is_settled), (plain.board.starts(), plain.board.is_settled))
                drawn = len([event for event in events if event[1] == "drawn"])
                many[drawn] = many.get(drawn, 0) + 1
        self.assertGreater(sum([many[drawn] for drawn in many if drawn > 2]), 100, many)

    def refused_alike(self, house, plain, deed):
        """Whether a deed is refused, as the plain house tells it; then nothing has changed."""
        word, before = deed[0], house.twin()
        if word == "open" and plain.board.failed.get(plain.names.index(deed[1][0])) == deed[2] and deed[3] is None:
            self.assertEqual(self.refused(UnknownName, house.do, deed).wanted, (deed[1][0], deed[2], None))
            return True
        if word == "fail" and (plain.names.index(deed[1]), house.now, None) in house.yard.shut_spans and plain.names.index(deed[1]) not in plain.board.failed:
            return True
        reason = None if word == "wait" else plain.refusal(deed)
        if reason is None:
            return False
        self.assertEqual(self.refused(Refused, house.do, deed).reason, reason)
        self.assertEqual((house, house.deeds), (before, before.deeds))
        return True

    def keep_starts(self, house, deed, events, starts):
        """15.10: a start that is told stays until one of these things happens."""
        for tick, word, number, *rest in events:
            if word == "told":
                self.assertTrue(number not in starts or deed == ("raise", number))
                starts[number] = rest[0]
            elif word in ("drawn", "put off"):
                self.assertEqual(starts.pop(number), rest[0])
                if word == "drawn":
                    self.assertLess(rest[1], rest[0])
                else:
                    self.assertIn(deed[0], ("fail", "shut", "hold", "raise"))
                    self.assertEqual(rest[2], house.deeds)
                if rest[1] is not None:
                    starts[number] = rest[1]
            elif word == "began" and deed != ("take", number) and number in starts:
                self.assertEqual(starts.pop(number), tick)
            elif word in ("began", "ended"):
                starts.pop(number, None)
        self.assertEqual(house.told_starts, starts)

    def compare(self, house, plain):
        board = plain.board
        self.assertEqual((house.yard, house.now, house.told, house.runs, house.told_starts), (board.yard, board.now, tuple(board.told), tuple(sorted(board.runs)), board.starts()))
        self.assertEqual((house.deeds, len(house), house.held, house.row(), house.accounts, house.rows, house.is_settled),
                         (plain.deeds, len(plain.jobs), tuple(sorted(plain.held)), plain.row(), plain.accounts, plain.rows, board.is_settled))
        self.assertEqual(house.untold, tuple([number for number in plain.jobs if plain.stands(number) == "untold"]))
        for number, job in plain.jobs.items():
            self.assertEqual((house.job(number), house.state(number), house.stands(number)), (job, plain.state[number], plain.stands(number)))
        if house.is_settled:
            self.assertEqual([house.earlier(number) for number in house.told], [None] * len(house.told))
        entries = tuple([(number, plain.came[number], plain.jobs[number].size, plain.jobs[number].grade, plain.jobs[number].account) for number in sorted(plain.row())])
        self.assertEqual(house.later_rows(), order_turns(plain.weights, entries, plain.accounts, house.now, plain.period))

    def check_why(self, house, plain, number, words):
        reasons, job, now = house.why(number), plain.jobs[number], house.now
        told = [word for word, _ in reasons]
        for word in told:
            words["why " + word] = words.get("why " + word, 0) + 1
        if plain.stands(number) in ("runs", "over"):
            self.assertEqual(reasons, ())
            return
        papers = dict(reasons)
        self.assertEqual(told, [word for word in ("held", "after", "stuck", "limits", "place", "row") if word in papers])
        self.assertEqual(("held" in papers, papers.get("held")), (number in plain.held, None))
        known = plain.known(job.after) if job.after is not None else {}
        is_open = job.after is None or true_now(job.after, known)
        self.assertEqual("after" in papers, not is_open)
        if not is_open:
            if may_come(job.after, known):
                self.assertIsNone(papers["after"])
            else:
                self.assertIs(is_lost_tree(job.after, known, papers["after"]), True)
        self.check_stuck(plain, number, papers)
        self.check_places(house, plain, number, papers, now)
        row = plain.row()
        if number in row:
            self.assertEqual(papers["row"], tuple(plain.board.told) + row[:row.index(number)])
        self.assertEqual("row" in papers, number in row)

    def check_stuck(self, plain, number, papers):
        wishes = {one: plain.jobs[one].after for one in plain.jobs if plain.state[one] == "waiting" and plain.stands(one) in ("untold", "told")}
        known = {one: plain.state[one] for one in plain.jobs if one not in wishes}
        for after in wishes.values():
            for one in jobs_named(after) if after is not None else ():
                if one not in plain.jobs:
                    known[one] = "waiting"
        stuck = stuck_set(wishes, known)
        self.assertEqual(papers.get("stuck", ()), stuck if number in stuck else ())
        self.assertIs(is_stuck_set(wishes, known, papers.get("stuck", ())), True)

    def check_places(self, house, plain, number, papers, now):
        job, ask, yard = plain.jobs[number], plain.ask(number), house.yard
        if number in house.told:
            yard = yard.without_place(number)
        sets = least_broken(plain.limits, plain.doors, yard.house_room(), job, now)
        self.assertEqual(papers.get("limits"), None if () in [keys for keys, _ in sets] else sets)
        if "limits" in papers:
            self.assertIs(is_least_broken(plain.limits, plain.doors, yard.house_room(), job, now, papers["limits"]), True)
        place = earliest_place(yard, ask, job.limit, now)
        self.assertEqual("place" in papers, place is None or place[0] > now)
        if "place" in papers:
            start, bars = papers["place"]
            self.assertEqual(start, None if place is None else place[0])
            self.assertIs(is_place_bars(yard, ask, job.limit, now, bars), True)
            self.assertTrue(is_plain_bars(yard, ask, job.limit, now, bars))
            self.assertTrue(place is None or bars[-1][1] == start)

    def test_each_tick_of_a_wait(self):
        """One long wait, and many short ones of which the last ticks are those at which the house settles, end alike."""
        chance, many = random.Random(152), 0
        for _ in range(60):
            setting = some_setting(chance)
            house = House(*setting)
            for _ in range(10):
                deed = some_deed(chance, house)
                try:
                    house.do(deed)
                except (Refused, UnknownName):
                    pass
            one, other = house.twin(), house.twin()
            ticks, events = chance.randrange(2, 30), []
            long = one.do(("wait", ticks))
            for _ in range(ticks):
                events += other.do(("wait", 1))
            # Settling at further ticks can only let jobs begin that fill gaps.
            if not house.setting[6]:
                self.assertEqual((list(long), one.yard, one.told, one.accounts), (events, other.yard, other.told, other.accounts))
                many += 1
        self.assertGreater(many, 20)


class Likes(Case):
    def test_rows_against_single_jobs(self):
        """6.6, for rows without an at once."""
        chance, many = random.Random(153), 0
        for _ in range(250):
            house = House(*some_setting(chance))
            for _ in range(chance.randrange(12)):
                deed = some_deed(chance, house)
                try:
                    house.do(deed)
                except (Refused, UnknownName):
                    pass
            afters = [house.job(number).after for number in range(1, len(house) + 1)]
            job, parts = some_job(chance, len(house)), chance.randrange(1, 5)
            if any([one > len(house) for after in afters if after is not None for one in jobs_named(after)]):
                continue
            one, other = house.twin(), house.twin()
            try:
                one.do(("row", job, tuple(range(parts)), None))
            except Refused:
                continue
            for _ in range(parts):
                other.do(("come", job))
            for _ in range(4):
                self.assertEqual((one.yard, one.told, one.runs, one.untold, one.row(), one.accounts), (other.yard, other.told, other.runs, other.untold, other.row(), other.accounts))
                ticks = chance.randrange(1, 9)
                self.assertEqual(one.do(("wait", ticks)), other.do(("wait", ticks)))
            many += 1
        self.assertGreater(many, 80)

    def test_rows_with_an_at_once_against_tokens(self):
        """6.6: as if the house had a further kind of tokens of which each part takes one."""
        chance, many = random.Random(154), 0
        for _ in range(120):
            setting = some_setting(chance)
            job, parts = some_job(chance, 0).changed(after=None), chance.randrange(2, 6)
            once = chance.randrange(1, parts)
            one, other = House(*setting), House(*setting[:1], setting[1] + some(once=once), *setting[2:])
            try:
                one.do(("row", job, tuple(range(0, 3 * parts, 3)), once))
            except Refused:
                continue
            for _ in range(parts):
                other.do(("come", job.changed(tokens=job.tokens + some(once=1))))
            for _ in range(5):
                self.assertEqual((one.told_starts, one.told, one.runs, one.untold), (other.told_starts, other.told, other.runs, other.untold))
                self.assertLessEqual(len(one.runs), once)
                ticks = chance.randrange(1, 9)
                self.assertEqual(one.do(("wait", ticks)), other.do(("wait", ticks)))
            many += 1
        self.assertGreater(many, 40)

    def test_the_greatest_houses(self):
        """Where a test looks at the time, it allows several times what it takes."""
        machines = tuple([Machine("m%d" % at, some(core=8), rack="r" + "abcdefgh"[at % 8]) for at in range(40)])
        house = House(machines, Amounts(), SETTING[2], SETTING[3], Weights(grade=1, place=3), 20, True)
        begin, chance = time.perf_counter(), random.Random(155)
        for at in range(60):
            house.do(("come", BIG_JOB.changed(groups=((chance.randrange(1, 9), ALL, some(core=chance.randrange(1, 9))),), limit=chance.randrange(1, 100), grade=at % 5)))
        house.do(("wait", 500))
        self.assertLess(time.perf_counter() - begin, 3.0)
        self.assertEqual([house.state(number) for number in range(1, 61)], ["late"] * 60)
        idle = House(machines[:1], Amounts(), SETTING[2], SETTING[3], Weights(), 5, False, 100, (("m0", 50, 50),))
        begin = time.perf_counter()
        idle.do(("wait", 100000))
        self.assertLess(time.perf_counter() - begin, 1.0)
