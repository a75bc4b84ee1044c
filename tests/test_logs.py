"""Points 16.1 to 16.4: logs and their texts."""

import random
import time

from toldstarts.base.amounts import Amounts
from toldstarts.errors import InvalidAmounts, InvalidDeed, InvalidHouse, InvalidMachine, InvalidNumber, ParseError, Refused, TooMany, UnknownName
from toldstarts.house.machines import Machine
from toldstarts.jobs.jobs import Job
from toldstarts.jobs.reader import write_job
from toldstarts.plan.limits import Doors, Limits
from toldstarts.rank.accounts import Accounts
from toldstarts.rank.scores import Weights
from toldstarts.work import log as module
from toldstarts.work.house import House
from toldstarts.work.log import Log, read_log, write_log
from helper import Case, a_job, some
from houses import some_deed, some_setting
from odd import EVERY, all_but, no_integers
from yards import ALL

AMOUNT, ACCOUNTS = some(core=4), Accounts((("lab", "", 1),))
SETTING = ((Machine("a", AMOUNT),), Amounts(), Doors((("day", 100),)), Limits(ACCOUNTS), Weights(), 2, False, 100, ())
BIG = Job("big", account="lab", person="ada", doors=("day",), groups=((1, ALL, AMOUNT),), limit=5)
LOG = Log(SETTING, (("come", BIG), ("come", BIG), ("wait", 2), ("end", 1, "well")))
JOB_LINES = ["  name big", "  account lab", "  person ada", "  doors day", "  group 1 : all : core 4", "  limit 00:00:05"]
FULL = ((Machine("a", AMOUNT, marks=("big", "new"), rack="x"), Machine("b10", some(core=4, mem=20))), some(lic=2, seat=1), Doors((("day", 100), ("night", 5))),
        Limits(Accounts((("web", "", 3), ("lab", "web", 1))), ((("account", "lab"), "core", 12), (("person", "ada"), "jobs", 1000000), (("door", "day"), "gpu", 1))),
        Weights(age=2, cap=3, size=4, grade=5, place=6), 20, True, 50, (("a", 0, 50), ("b10", 49, 1)))
FULL_LINES = ["machine a x big,new core 4", "machine b10 main - core 4, mem 20", "tokens lic 2, seat 1", "door day 100", "door night 5", "account lab web 1", "account web - 3",
              "limit account lab core 12", "limit person ada jobs 1000000", "limit door day gpu 1", "weights 2 3 4 5 6", "depth 20", "fill yes", "period 50", "window a 0 50", "window b10 49 1"]


def some_log(chance, most=40):
    """A setting, deeds that its house accepts, and the events of each."""
    setting = some_setting(chance)
    house, deeds, events = House(*setting), [], []
    for _ in range(chance.randrange(5, most)):
        deed = some_deed(chance, house)
        try:
            events.append(house.do(deed))
            deeds.append(deed)
        except (Refused, UnknownName):
            pass
    return setting, tuple(deeds), tuple(events), house


def anew(setting, deeds):
    """The house and the events to which deeds lead from the beginning, or the index of the first one that is not accepted."""
    house, events = House(*setting), []
    for index, deed in enumerate(deeds):
        try:
            events.append(house.do(deed))
        except (Refused, UnknownName, TooMany, InvalidDeed):
            return None, index
    return house, tuple(events)


class Logs(Case):
    def test_constants(self):
        self.assertEqual((module.MAX_DEEDS, module.MAX_JOB_TEXT), (1000, 4000))

    def test_properties(self):
        self.assertEqual((LOG.setting, len(LOG), list(LOG), LOG.deeds, str(LOG)), (SETTING, 4, list(LOG.deeds), (("come", BIG), ("come", BIG), ("wait", 2), ("end", 1, "well")), "log of 4 deeds"))
        self.assertEqual([len(events) for events in LOG.events], [3, 2, 0, 3])
        self.assertEqual((Log(SETTING).deeds, Log(SETTING).events, str(Log(SETTING))), ((), (), "log of 0 deeds"))
        for name in ("setting", "deeds", "events"):
            with self.assertRaises(AttributeError):
                setattr(LOG, name, 1)

    def test_houses_of_logs(self):
        house, other = LOG.house(), LOG.house()
        self.assertEqual((house, house.deeds, house.now), (other, 4, 2))
        house.do(("wait", 5))
        self.assertEqual((other.now, LOG.house().now, len(LOG)), (2, 2, 4))
        # 16.4: each further deed is done as every such house does it.
        plain = House(*SETTING)
        for deed in LOG.deeds:
            plain.do(deed)
        self.assertEqual([self.refused(Refused, one.do, ("hold", 2)).reason for one in (plain, other)], [("stands", 2, "runs")] * 2)
        self.assertEqual(plain.do(("wait", 9)), other.do(("wait", 9)))

    def test_equality(self):
        self.assertEqual((LOG == Log(SETTING, LOG.deeds), LOG != Log(SETTING, LOG.deeds)), (True, False))
        for value in EVERY + (LOG.until(3), LOG.with_deed(("wait", 1)), Log(SETTING[:5] + (3,) + SETTING[6:], LOG.deeds), LOG.edited(3, 1, (("end", 1, "ill"),))):
            self.assertIs(LOG == value, False)
            self.assertIs(LOG != value, True)

    def test_errors_in_order(self):
        for value in EVERY + (SETTING[:8], SETTING + (1,), list(SETTING)):
            if value != SETTING and not (isinstance(value, tuple) and len(value) == 9):
                self.refused(InvalidHouse, Log, value, None)
        for at, error in ((0, InvalidMachine), (1, InvalidAmounts), (2, InvalidHouse), (3, InvalidHouse), (4, InvalidHouse), (5, InvalidNumber), (6, InvalidHouse), (7, InvalidNumber), (8, InvalidHouse)):
            self.refused(error, Log, SETTING[:at] + (None,) + SETTING[at + 1:], None)
        for value in EVERY:
            if value != ():
                self.refused(InvalidDeed, Log, SETTING, value)
            if value not in (("come", a_job()), ("wait", 1)):
                self.refused(InvalidDeed, Log, SETTING, (("leave", 7), value))
        self.refused(InvalidDeed, Log, SETTING, list(LOG.deeds))
        for deeds, index in (((("leave", 7),), 0), ((("come", BIG), ("wait", 1), ("fail", "zz"), ("leave", 7)), 2), ((("come", BIG), ("shut", ("a",), 9, 8)), 1), ((("come", BIG), ("end", 1, "ill"), ("end", 1, "ill")), 2)):
            self.assertEqual(self.refused(Refused, Log, SETTING, deeds).reason, ("deed", index))

    def test_a_thousand_deeds_and_one_more(self):
        deeds = (("wait", 1),) * 1000
        log = Log(SETTING, deeds)
        self.assertEqual((len(log), log.house().now), (1000, 1000))
        self.assertEqual(self.refused(TooMany, Log, SETTING, (("leave", 7),) + deeds).most, 1000)
        self.assertEqual(self.refused(TooMany, log.with_deed, ("wait", 1)).most, 1000)
        self.assertEqual(self.refused(UnknownName, log.with_deed, ("leave", 7)).wanted, 7)
        self.refused(InvalidDeed, log.with_deed, ("leave",))
        self.assertEqual(self.refused(TooMany, log.edited, 5, 0, (("leave", 7),)).most, 1000)
        self.assertEqual(self.refused(TooMany, log.edited, 1000, 0, (("wait", 1),)).most, 1000)
        self.assertEqual(self.refused(Refused, log.edited, 998, 1, (("leave", 7),)).reason, ("deed", 998))
        self.assertEqual(len(log.edited(5, 1, (("wait", 2),))), 1000)

    def test_with_deed(self):
        self.assertEqual((LOG.until(3).with_deed(("end", 1, "well")), LOG.until(3).with_deed(("end", 1, "well")).events), (LOG, LOG.events))
        self.assertEqual(self.refused(Refused, LOG.with_deed, ("end", 1, "well")).reason, ("stands", 1, "over"))
        for value in EVERY:
            if value not in (("come", a_job()), ("wait", 1)):
                self.refused(InvalidDeed, LOG.with_deed, value)
        self.assertEqual(len(LOG), 4)

    def test_until_and_edited(self):
        for value in no_integers(0, 4):
            self.assertIs(self.refused(InvalidNumber, LOG.until, value).given, value)
            self.assertIs(self.refused(InvalidNumber, LOG.edited, value, None, None).given, value)
        for value in no_integers(0, 2):
            self.assertIs(self.refused(InvalidNumber, LOG.edited, 2, value, None).given, value)
        for value in EVERY:
            if value != ():
                self.refused(InvalidDeed, LOG.edited, 2, 1, value)
        self.refused(InvalidDeed, LOG.edited, 2, 1, (("leave", 9), ("leave",)))
        self.assertEqual((LOG.until(0), LOG.until(4), LOG.edited(4, 0, ()), LOG.edited(0, 4, ())), (Log(SETTING), LOG, LOG, Log(SETTING)))
        self.assertEqual(self.refused(Refused, LOG.edited, 0, 2, ()).reason, ("deed", 1))
        self.assertEqual(self.refused(Refused, LOG.edited, 4, 0, (("wait", 1), ("leave", 1))).reason, ("deed", 5))
        self.assertEqual(LOG.edited(0, 1, ()).house().runs, ())
        self.assertEqual(LOG.edited(2, 1, (("wait", 1), ("wait", 1), ("wait", 1))).events[5], LOG.edited(2, 1, (("wait", 3),)).events[3])
        self.assertEqual(LOG.edited(3, 1, (("end", 1, "ill"),)).house().state(1), "ill")

    def test_history(self):
        self.assertEqual(LOG.history(2), ((2, (0, "came", 2)), (2, (0, "told", 2, 5)), (4, (2, "drawn", 2, 5, 2)), (4, (2, "began", 2, (2, 0, ((0,),))))))
        self.assertEqual([event[1] for _, event in LOG.history(1)], ["came", "told", "began", "ended"])
        for value in EVERY + (0, 3, "1"):
            if value != 1 or isinstance(value, bool):
                self.assertIs(self.refused(UnknownName, LOG.history, value).wanted, value)

    def test_against_houses_from_the_beginning(self):
        """0.17, 16.4: cut anywhere, written and read back, gone on with, and edited anywhere."""
        chance, found = random.Random(161), [0, 0]
        for _ in range(60):
            setting, deeds, events, house = some_log(chance, 70)
            log = Log(setting, deeds)
            self.assertEqual((log.house(), log.events, log.deeds), (house, events, deeds))
            for number in range(1, len(house) + 1):
                self.assertEqual(log.history(number), tuple([(at + 1, event) for at, row in enumerate(events) for event in row if event[2] == number]))
            cut = chance.randrange(len(deeds) + 1)
            short = log.until(cut)
            self.assertEqual((short, short.house(), short.events), (Log(setting, deeds[:cut]), anew(setting, deeds[:cut])[0], events[:cut]))
            back = read_log(write_log(short))
            self.assertEqual((back, write_log(back)), (short, write_log(short)))
            again = back.house()
            self.assertEqual(tuple([again.do(deed) for deed in deeds[cut:]]), events[cut:])
            self.assertEqual(again, house)
            for deed in deeds[cut:cut + 30]:
                short = short.with_deed(deed)
            self.assertEqual((short, short.house(), short.events), (log.until(len(short)), log.until(len(short)).house(), events[:len(short)]))
            for _ in range(4):
                index = chance.randrange(len(deeds) + 1)
                gone, others = chance.randrange(min(3, len(deeds) - index) + 1), tuple([some_deed(chance, house) for _ in range(chance.randrange(3))])
                wanted = deeds[:index] + others + deeds[index + gone:]
                other_house, other_events = anew(setting, wanted)
                found[other_house is None] += 1
                if other_house is None:
                    self.assertEqual(self.refused(Refused, log.edited, index, gone, others).reason, ("deed", other_events))
                else:
                    edited = log.edited(index, gone, others)
                    self.assertEqual((edited.deeds, edited.events, edited.house()), (wanted, other_events, other_house))
            self.assertEqual((log.house(), log.events), (house, events))
        self.assertGreater(min(found), 40)

    def test_long_logs(self):
        """Where a test looks at the time, it allows several times what it takes."""
        deeds = (("come", BIG), ("wait", 3), ("leave", 1)) + tuple([deed for number in range(2, 300) for deed in (("come", BIG), ("wait", 3), ("end", number, "well"))])
        begin = time.perf_counter()
        log = Log(SETTING, deeds)
        self.assertEqual(read_log(write_log(log)), log)
        for _ in range(20):
            log = log.edited(890, 1, (("wait", 4),))
        self.assertLess(time.perf_counter() - begin, 5.0)
        self.assertEqual((len(log.house()), log.house().state(299)), (299, "well"))


class Texts(Case):
    def test_the_text_of_a_log(self):
        self.assertEqual(write_log(LOG).splitlines(), ["machine a main - core 4", "tokens nothing", "door day 100", "account lab - 1", "weights 1 10000 0 0 0", "depth 2", "fill no", "period 100",
                                                      "come"] + JOB_LINES + ["come"] + JOB_LINES + ["wait 2", "end 1 well"])
        self.assertEqual(read_log(write_log(LOG)), LOG)
        full = Log(FULL)
        self.assertEqual(write_log(full).split("\n"), FULL_LINES)
        self.assertEqual((read_log(write_log(full)), read_log(write_log(full)).setting), (full, FULL))

    def test_all_deeds(self):
        deeds = (("come", BIG.changed(grade=3, tokens=some(lic=1), after=("well", 9), limit=4)), ("row", BIG.changed(limit=4), (1, 2, 3, 7), 2), ("row", BIG.changed(limit=4), (0,), None),
                 ("hold", 6), ("let", 6), ("shut", ("b10", "c", "c1", "c2"), 5, 9), ("shut", ("b10",), 5, None), ("open", ("b10", "c", "c1", "c2"), 5, 9), ("open", ("b10",), 5, None),
                 ("fail", "b10"), ("mend", "b10"), ("raise", 2), ("take", 6), ("end", 3, "ill"), ("leave", 5), ("wait", 100))
        machines = tuple([Machine(name, AMOUNT) for name in ("b10", "c", "c1", "c2")])
        log = Log((machines, some(lic=2)) + SETTING[2:5] + (1, False, 100, ()), deeds)
        words = [line for line in write_log(log).split("\n")[11:] if not line.startswith("  ")]
        self.assertEqual(words, ["come", "row 1-3,7 2", "row 0 -", "hold 6", "let 6", "shut b10,c,c[1-2] 5 9", "shut b10 5 -", "open b10,c,c[1-2] 5 9", "open b10 5 -", "fail b10", "mend b10", "raise 2", "take 6",
                                 "end 3 ill", "leave 5", "wait 100"])
        self.assertEqual(read_log(write_log(log)), log)
        self.assertEqual(read_log(write_log(log)).house(), log.house())

    def test_texts_of_four_thousand_signs_and_one_more(self):
        """A job whose text has 4000 signs is read back; a longer one is not written."""
        form = ("or", tuple([("mark", "aaaaaaaa")] * 58))
        job = BIG.changed(name="b" * 12, groups=tuple([(1, form, some(core=1))] * 6))
        base = Log((tuple([Machine("m%d" % at, AMOUNT, marks=("aaaaaaaa",)) for at in range(6)]),) + SETTING[1:])
        for many, size in ((8, 4000), (9, 4001)):
            other = job.changed(person="p" * many)
            self.assertEqual(len(write_job(other)), size)
            for deed in (("come", other), ("row", other, (1, 2), None)):
                log = base.with_deed(("wait", 1)).with_deed(deed)
                if size == 4000:
                    self.assertEqual(read_log(write_log(log)), log)
                else:
                    self.assertEqual(self.refused(TooMany, write_log, log).most, 4000)
        for value in all_but(Log):
            self.refused(InvalidHouse, write_log, value)

    def wrong_line(self, index, lines):
        found = self.refused(ParseError, read_log, "\n".join(lines)).spot
        self.assertEqual(found, index, lines)

    def test_no_texts(self):
        for value in all_but(str):
            self.assertIs(self.refused(ParseError, read_log, value).spot, None)
        for value in [value for value in EVERY if isinstance(value, str)] + ["\n", "machine", " machine a main - core 4"]:
            self.assertEqual(self.refused(ParseError, read_log, value).spot, 0)

    def test_each_line_that_is_missing(self):
        """Only lines of limits and windows can be missing."""
        lines = write_log(LOG).split("\n")
        for at in range(8):
            self.wrong_line(at, lines[:at] + lines[at + 1:])
            self.wrong_line(at, lines[:at])
            if lines[at].split(" ")[0] not in ("machine", "door", "account"):
                self.wrong_line(at + 1, lines[:at + 1] + lines[at:])
        self.assertEqual(read_log("\n".join(lines[:8])), Log(SETTING))
        self.wrong_line(len(lines), lines + [""])
        self.wrong_line(0, [""] + lines)
        for at in range(1, len(FULL_LINES)):
            if FULL_LINES[at].split(" ")[0] != FULL_LINES[at - 1].split(" ")[0]:
                swapped = FULL_LINES[:at - 1] + [FULL_LINES[at], FULL_LINES[at - 1]] + FULL_LINES[at + 1:]
                self.assertIn(self.refused(ParseError, read_log, "\n".join(swapped)).spot, (at - 1, at, at + 1))

    def test_each_wrong_line(self):
        """Each sign of each line is changed: the line is wrong at its place, or the text is that of another log."""
        chance, wrong, right = random.Random(162), 0, 0
        for at, line in enumerate(FULL_LINES):
            for place in range(len(line) + 1):
                for sign in (" ", "-", "0", "7", "a", "z", ",", "A", "", "\t"):
                    other = line[:place] + sign + line[place + chance.randrange(2):]
                    if other == line:
                        continue
                    lines = FULL_LINES[:at] + [other] + FULL_LINES[at + 1:]
                    try:
                        self.assertEqual(write_log(read_log("\n".join(lines))).split("\n"), sorted_accounts(lines))
                        right += 1
                    except ParseError as error:
                        self.assertEqual(error.spot, at, other)
                        wrong += 1
                    except (InvalidHouse, InvalidMachine, UnknownName):
                        right += 1
        self.assertGreater(min(wrong, right), 300)

    def test_lines_of_the_setting(self):
        for at, others in ((0, ("machine a x big,new core 4,mem 2", "machine a x new,big core 4", "machine a x big, new core 4", "machine a x all core 4", "machine a x  core 4", "machine a x - ", "machine a x -",
                                "machine a01 x - core 4", "machine A x - core 4", "machine a x1 - core 4", "machine a x - core 04", "machine a x - mem 2, core 4", "machine a x - core 0", "machine  a x - core 4",
                                "machine a x - core 1000001", "machine a x - nothing ", "Machine a x - core 4", "machines a x - core 4", "machine a x big,big core 4", "machine a x , core 4", "machine a x -,- core 4")),
                           (2, ("tokens", "tokens ", "tokens nothing, lic 2", "tokens lic  2", "token lic 2", "tokens lic 2 ", "tokens 2")),
                           (3, ("door day", "door day 0", "door day 100001", "door day -5", "door day 100 1", "door Day 100", "door day 0100", "door  100", "doors day 100", "door day x", "door day " + "9" * 5000)),
                           (5, ("account lab web", "account lab web 0", "account lab web 1000001", "account lab lab 1", "account lab  1", "account - web 1", "account lab web 01", "account Lab web 1", "account lab web 1 1")),
                           (7, ("limit account lab core", "limit account lab core 0", "limit account lab core 1000001", "limit house lab core 1", "limit account lab core2 1", "limit account lab nothing 1",
                                "limit account Lab core 1", "limit account lab core 01", "limit account  core 1", "limit account lab core 1 1")),
                           (10, ("weights 2 3 4 5", "weights 2 3 4 5 6 7", "weights 2 3 4 5 1000001", "weights -1 3 4 5 6", "weights 2 3 4 05 6", "weights 2 3 4 5 x", "weight 2 3 4 5 6")),
                           (11, ("depth 0", "depth 21", "depth", "depth 020", "depth -1", "depth x", "depth 5 5")), (12, ("fill maybe", "fill", "fill Yes", "fill yes ", "fill 1")),
                           (13, ("period 0", "period 10001", "period", "period 050", "period 5 0")),
                           (14, ("window a -1 50", "window a 0 0", "window a 0", "window A 0 50", "window a 00 50", "window a 0 050", "window a 0 50 1", "window - 0 50", "window a 0 -", "window a 0 " + "9" * 61))):
            for other in others:
                self.wrong_line(at, FULL_LINES[:at] + [other] + FULL_LINES[at + 1:])

    def test_parts_that_cannot_stand_together(self):
        """Behind all lines come the errors of what they tell."""
        def text(at, *others):
            return "\n".join(FULL_LINES[:at] + list(others) + FULL_LINES[at + 1:] + ["leave 1"])

        for value, error in ((text(4, "door day 5"), InvalidHouse), (text(5, "account lab zoo 1"), InvalidHouse), (text(6, "account web lab 3"), InvalidHouse), (text(7, "limit account zoo core 12"), UnknownName),
                             (text(8, "limit account lab core 1"), InvalidHouse), (text(1, "machine a main - core 4"), InvalidMachine), (text(14, "window c 0 50"), InvalidHouse), (text(14, "window a 50 50"), InvalidHouse),
                             (text(14, "window a 0 51"), InvalidHouse), (text(14, "window a 0 " + "9" * 60), InvalidHouse), (text(14, "window z 0 50"), InvalidHouse), (text(2, "tokens lic2 2"), InvalidHouse),
                             (text(3, *["door d%d 5" % at for at in range(12)]), InvalidHouse), (text(0, *["machine m%d main - nothing" % at for at in range(40)]), InvalidMachine)):
            self.refused(error, read_log, value)
        self.assertEqual(self.refused(Refused, read_log, "\n".join(FULL_LINES + ["wait 1", "leave 1"])).reason, ("deed", 1))
        self.assertEqual(self.refused(TooMany, read_log, "\n".join(FULL_LINES + ["wait 1"] * 1001)).most, 1000)
        # The order of the account lines is not that of a line: each of them is right by itself.
        self.assertEqual(read_log("\n".join(FULL_LINES[:5] + FULL_LINES[6:7] + FULL_LINES[5:6] + FULL_LINES[7:])), Log(FULL))

    def test_lines_of_deeds(self):
        lines = write_log(LOG.until(1)).split("\n")
        for deed in ("wait", "wait 0", "wait 100001", "wait 01", "wait x", "wait 1 1", " wait 1", "wait 1 ", "stay 1", "end 1", "end 1 late", "end x well", "end 1 well 1", "end -0 well", "end 01 well", "end +1 well",
                     "end " + "9" * 61 + " well", "leave", "leave -", "hold 1.0", "let one", "raise  1", "take 1,2", "fail", "fail A", "fail a,b", "fail a01", "mend", "shut a 5", "shut a 5 x", "shut a - 5", "shut a -1 5",
                     "shut a 5 1000001", "shut b,a 5 9", "shut a,a 5 9", "shut a[1] 5 9", "shut a1,a2 5 9", "shut  5 9", "shut a[1-3 5 9", "shut m[0-1000] 5 9", "open a 5", "open a 05 -", "Wait 1", "", "come 1", "row 1", "row 1 1 1", "row"):
            self.wrong_line(len(lines), lines + [deed])
            self.wrong_line(len(lines), lines + [deed, "wait 1"])
        self.wrong_line(8, lines + ["  name big"])
        self.wrong_line(16, lines + ["wait 1", "  name big"])
        for deed, reason in (("wait 1", None), ("end -5 well", ("deed", 1)), ("end " + "9" * 60 + " ill", ("deed", 1)), ("shut a 5 5", ("deed", 1)), ("shut a,zz[7,9] 5 9", ("deed", 1)), ("open a 5 -", ("deed", 1)), ("fail b", ("deed", 1))):
            if reason is None:
                self.assertEqual(len(read_log("\n".join(lines + [deed]))), 2)
            else:
                self.assertEqual(self.refused(Refused, read_log, "\n".join(lines + [deed])).reason, reason)

    def test_lines_of_jobs(self):
        lines = write_log(Log(SETTING)).split("\n")
        for head in ("come", "row 1-3,7 2"):
            right = lines + [head] + JOB_LINES
            self.assertEqual(len(read_log("\n".join(right + ["wait 1"]))), 2)
            for at in range(len(JOB_LINES)):
                self.wrong_line(8, lines + [head] + JOB_LINES[:at] + JOB_LINES[at + 1:] + ["wait 1"])
                if at != 4:
                    self.wrong_line(8, lines + [head] + JOB_LINES[:at] + JOB_LINES[at:at + 1] + JOB_LINES[at:])
                self.wrong_line(8, lines + [head] + JOB_LINES[:at] + [JOB_LINES[at] + " "] + JOB_LINES[at + 1:])
                self.wrong_line(8, lines + [head] + JOB_LINES[:at] + [" " + JOB_LINES[at]] + JOB_LINES[at + 1:])
                # A line with one blank ahead ends the job.
                self.wrong_line(8 if at < 6 else 14, lines + [head] + JOB_LINES[:at] + [JOB_LINES[at][1:]] + JOB_LINES[at + 1:])
            self.wrong_line(8, lines + [head])
            self.wrong_line(8, lines + [head] + JOB_LINES + ["  "])
            self.wrong_line(8, lines + [head] + JOB_LINES + ["  # a remark"])
            self.wrong_line(8, lines + [head] + JOB_LINES[::-1])
            self.wrong_line(8, lines + [head] + JOB_LINES[:5] + ["  limit 5:00"])
            self.wrong_line(8, lines + [head] + JOB_LINES[:4] + ["  group 1:all:core 4"] + JOB_LINES[5:])
            self.wrong_line(15, right + [" wait 1"])
        for head in ("row 1-3,7 0", "row 1-3,7 5", "row 1,2,3,7 2", "row 7,1-3 2", "row 1-3,7", "row 1-3,7 2 1", "row  2", "row 1-3,7 02", "row 10000 -", "row 0-60 -", "row - -", "row 1-3,7 x", "rows 1 -", "come ", "come -"):
            self.wrong_line(8, lines + [head] + JOB_LINES)
        self.assertEqual(read_log("\n".join(lines + ["row 1-3,7 -"] + JOB_LINES)).deeds, (("row", BIG, (1, 2, 3, 7), None),))


def sorted_accounts(lines):
    """The lines with those of accounts in their order."""
    rows = sorted([line for line in lines if line.startswith("account ")], key=lambda line: line.split(" ")[1])
    return lines[:5] + rows + lines[5 + len(rows):]
