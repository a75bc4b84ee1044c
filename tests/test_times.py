"""Points 15.6, 16.1, 16.4, 16.5: deeds, logs and desks that are asked again and again.

Where a test here looks at the time, it allows several times what is wanted, as machines differ.
"""

import random
import time

from toldstarts.base.amounts import Amounts
from toldstarts.errors import HouseError, InvalidDeed, Refused, TooMany, UnknownName
from toldstarts.house.machines import Machine
from toldstarts.jobs.jobs import Job
from toldstarts.plan.limits import Doors, Limits
from toldstarts.plan.places import Yard
from toldstarts.plan.told import Board
from toldstarts.rank.accounts import Accounts
from toldstarts.rank.scores import Weights
from toldstarts.work.desk import Desk
from toldstarts.work.house import House
from toldstarts.work.log import Log
from helper import Case, some
from houses import PlainHouse, some_deed, some_setting
from test_logs import anew, some_log
from yards import ALL, BIG

LIMITS = Limits(Accounts((("lab", "", 2), ("team", "lab", 1), ("web", "", 1))), (
    (("account", "lab"), "core", 3), (("person", "ada"), "jobs", 1), (("door", "day"), "jobs", 2), (("account", "web"), "core", 2)))
CREW = (Machine("a", some(core=4), marks=("big",)), Machine("b", some(core=2), rack="side"), Machine("c", some(core=3)))
SETTING = (CREW, some(lic=2), Doors((("day", 4), ("night", 8))), LIMITS, Weights(cap=100, size=1, grade=5, place=3), 3, True, 10, (("a", 3, 1),))
JOB = Job("sim", account="team", person="ada", doors=("day", "night"), groups=((1, ALL, some(core=2)), (1, BIG, some(core=1))), tokens=some(lic=1), limit=4, grade=1)
OTHER = JOB.changed(account="web", person="bob", groups=((1, ALL, some(core=1)),), limit=3, after=("or", (("begun", 1), ("ill", 2))))
DEEDS = (("come", JOB), ("come", OTHER), ("come", JOB), ("wait", 2), ("come", OTHER), ("hold", 3), ("wait", 1), ("let", 3), ("fail", "b"), ("come", OTHER), ("mend", "b"), ("wait", 4))
PLAIN = ((Machine("a", some(core=4)),), Amounts(), Doors((("day", 100),)), Limits(Accounts((("lab", "", 1),))), Weights(), 2, False, 100, ())
LARGE = Job("big", account="lab", person="ada", doors=("day",), groups=((1, ALL, some(core=4)),), limit=5)
IDLE = (("wait", 1),) * 40 + (("come", LARGE), ("come", LARGE)) + (("wait", 1),) * 4
# How many times what is wanted is allowed.
SLOWER = 5


def plain_events(setting, deeds):
    """The events that a plain house tells of each deed."""
    house = PlainHouse(*setting)
    return tuple([house.do(deed) for deed in deeds])


class Times(Case):
    def check_time(self, wanted, call):
        """One of some calls takes at most several times what is wanted."""
        least = wanted * SLOWER * 2
        for _ in range(20):
            begin = time.perf_counter()
            call()
            least = min(least, time.perf_counter() - begin)
        self.assertLess(least, wanted * SLOWER)

    def test_a_log(self):
        log = Log(SETTING, DEEDS)
        self.assertEqual(log.events, plain_events(SETTING, DEEDS))
        self.assertEqual(log.house(), anew(SETTING, DEEDS)[0])
        self.check_time(0.0006, lambda: Log(SETTING, DEEDS))

    def test_edited(self):
        log, desk = Log(SETTING, DEEDS), Desk(Log(SETTING, DEEDS))
        edited = log.edited(2, 1, (("wait", 1),))
        deeds = DEEDS[:2] + (("wait", 1),) + DEEDS[3:]
        # The job 3 is the one that came at the deed 5 now, so it is the one that is held and let go.
        self.assertEqual((edited.deeds, edited.events), (deeds, plain_events(SETTING, deeds)))
        self.assertEqual(edited.house(), anew(SETTING, deeds)[0])
        self.assertEqual((desk.edit(2, 1, (("wait", 1),)), desk.log, desk.house()), (2, edited, edited.house()))
        self.check_time(0.0005, lambda: log.edited(2, 1, (("wait", 1),)))
        self.check_time(0.0005, lambda: Desk(log).edit(2, 1, (("wait", 1),)))

    def test_until(self):
        log = Log(SETTING, DEEDS)
        for count in range(len(DEEDS) + 1):
            short = log.until(count)
            self.assertEqual((short.deeds, short.events, short.house()), (DEEDS[:count], log.events[:count], anew(SETTING, DEEDS[:count])[0]))
        self.check_time(0.0004, lambda: log.until(6))
        self.check_time(0.0004, lambda: log.until(6).house())

    def test_a_house_and_its_first_job(self):
        self.assertEqual(House(*SETTING).do(("come", JOB)), plain_events(SETTING, (("come", JOB),))[0])
        self.check_time(0.0001, lambda: House(*SETTING).do(("come", JOB)))

    def test_a_house_with_next_to_nothing_to_do(self):
        log = Log(PLAIN, IDLE)
        self.assertEqual(log.events, plain_events(PLAIN, IDLE))
        self.assertEqual(log.events[40:], (((40, "came", 1), (40, "told", 1, 40), (40, "began", 1, (40, 0, ((0,),)))), ((40, "came", 2), (40, "told", 2, 45)), (), (), (), ()))
        self.assertEqual(log.house(), anew(PLAIN, IDLE)[0])
        self.check_time(0.0004, lambda: Log(PLAIN, IDLE))


class Kept(Case):
    """What is kept between calls has no effect on what they tell."""

    def test_jobs_that_are_nearly_alike(self):
        """A house that has answered to many jobs answers to each further one as a new house does."""
        chance, seen, found = random.Random(191), House(*SETTING), {}
        two = ((1, ALL, some(core=1)), (1, BIG, some(core=1)))
        changes = (("account", ("lab", "web", "nix")), ("person", ("bob",)), ("doors", (("day",), ("night",), ("night", "day"), ("other", "day"))), ("grade", (0,)), ("name", ("fit",)),
                   ("groups", (two, two[:1], ((2, ALL, some(core=2)),), ((1, BIG, some(core=4)),), ((1, ALL, some(core=9)),), ((1, ALL, some(gpu=1)),), ((1, ALL, some(x2=1)),))),
                   ("tokens", (Amounts(), some(lic=2), some(lic=3), some(seat=1))), ("limit", (1, 5, 9)), ("after", (("begun", 1), ("ill", 2))))
        for _ in range(1500):
            job = JOB.changed(groups=two[1:])
            for name, others in chance.sample(changes, chance.choice((0, 1, 1, 1, 2, 2, 3))):
                job = job.changed(**{name: chance.choice(others)})
            deed = chance.choice((("come", job), ("come", job), ("row", job, (1, 2), None), ("row", job, (1, 2, 5), chance.choice((1, 2)))))
            answers = []
            for house in (seen.twin(), House(*SETTING)):
                try:
                    answers.append((house.do(deed), house))
                except Refused as error:
                    answers.append(error.reason)
                    found[error.reason[0]] = found.get(error.reason[0], 0) + 1
            self.assertEqual(answers[0], answers[1], deed)
            if not isinstance(answers[0][0], str):
                self.assertEqual(House(*SETTING).twin().do(deed), answers[0][0])
                found["come"] = found.get("come", 0) + 1
        self.assertEqual(sorted(found), ["account", "come", "doors", "kinds", "limits", "never"])
        self.assertGreater(min(found.values()), 20, found)

    def test_more_jobs_than_are_kept(self):
        """More unlike amounts of like jobs, and more unlike limits, than a house keeps answers to."""
        jobs = [LARGE.changed(groups=((1, ALL, some(core=number)),)) for number in range(1, 150)]
        jobs.extend([LARGE.changed(limit=limit) for limit in range(1, 150)])
        house = House(*PLAIN)
        for _ in range(2):
            for job in jobs:
                reason = ("doors",) if job.limit > 100 else ("never",) if job.size > 4 else None
                if reason is None:
                    self.assertEqual(house.twin().do(("come", job)), ((0, "came", 1), (0, "told", 1, 0), (0, "began", 1, (0, 0, ((0,),)))))
                else:
                    self.assertEqual(self.refused(Refused, house.do, ("come", job)).reason, reason)

    def test_twins_go_on_by_themselves(self):
        """0.2: no house, board or log has any effect on another one, however it was made from it."""
        chance = random.Random(192)
        for _ in range(40):
            setting, deeds, events, house = some_log(chance, 40)
            log, before = Log(setting, deeds), Log(setting, deeds).house()
            twin, other = house.twin(), log.house()
            for one in (twin, other):
                for _ in range(6):
                    try:
                        one.do(some_deed(chance, one))
                    except (HouseError, Refused, UnknownName, TooMany):
                        pass
            self.assertEqual((house, log.house(), log.events, log.until(len(log)).house()), (before, before, events, before))
            cut = chance.randrange(len(deeds) + 1)
            self.assertEqual((log.until(cut).house(), log.house()), (anew(setting, deeds[:cut])[0], before))

    def test_refused_deeds_leave_no_trace(self):
        """A deed that is refused on the way changes nothing, neither in the house nor in what it does further."""
        chance, many = random.Random(193), 0
        for _ in range(60):
            setting = some_setting(chance)
            house, other = House(*setting), House(*setting)
            for _ in range(25):
                deed = some_deed(chance, house)
                try:
                    events = house.do(deed)
                except (HouseError, Refused, UnknownName, TooMany):
                    many += 1
                else:
                    self.assertEqual(other.do(deed), events)
            self.assertEqual(house, other)
        self.assertGreater(many, 100)

    def test_logs_of_logs(self):
        """Logs that are cut, gone on with and edited, and cut again, lead to what their deeds lead to from the beginning."""
        chance, many = random.Random(194), 0
        for _ in range(30):
            setting, deeds, _, house = some_log(chance, 80)
            log = Log(setting, deeds)
            logs = [log]
            for _ in range(8):
                log = chance.choice(logs)
                index = chance.randrange(len(log) + 1)
                deed = some_deed(chance, house)
                try:
                    log = chance.choice((lambda: log.until(index), lambda: log.with_deed(deed), lambda: log.edited(index, 0, (deed,)),
                                         lambda: log.edited(index, min(1, len(log) - index), ()), lambda: log.until(index).with_deed(deed)))()
                    logs.append(log)
                    many += 1
                except (Refused, UnknownName, TooMany, InvalidDeed):
                    pass
            chance.shuffle(logs)
            for log in logs:
                self.assertEqual((log.house(), log.events), anew(setting, log.deeds))
        self.assertGreater(many, 120)

    def test_logs_against_plain_houses(self):
        """Logs that are cut and edited anywhere tell the events that a plain house tells of their deeds."""
        chance, total = random.Random(195), 0
        for _ in range(120):
            setting = some_setting(chance)
            house, log = House(*setting), Log(setting)
            for _ in range(chance.randrange(10, 60)):
                index = len(log) if chance.random() < 0.8 else chance.randrange(len(log) + 1)
                deed = some_deed(chance, house)
                # A plain house does not tell a machine that fails from one that is shut for ever.
                if deed[0] == "shut" and deed[3] is None:
                    continue
                try:
                    log = log.edited(index, min(chance.choice((0, 0, 1, 2)), len(log) - index), (deed,))
                    house = log.house()
                except Refused:
                    log = log.until(len(log) - chance.choice((0, 0, 0, 0, 1)) * (len(log) > 0))
            self.assertEqual(log.events, plain_events(setting, log.deeds))
            self.assertEqual((log.house(), Desk(log).house()), (anew(setting, log.deeds)[0],) * 2)
            total = total + len(log)
        self.assertGreater(total, 1000)

    def test_boards_that_are_kept(self):
        """What a board has told stays what it was when the board goes on."""
        board = Board(Yard((Machine("a", some(core=4)), Machine("b", some(core=4)))), depth=3)
        two = (((2, ALL, some(core=4)),), Amounts())
        board.settle(0, ((1, (two,), 5), (2, (two,), 5)))
        yard, twin = board.yard, board.twin()
        told = (yard, board.told, board.starts, board.runs)
        board.fail(0)
        board.mend(0)
        board.settle(3, ((7, (two,), 2),))
        self.assertEqual((yard, twin.told, twin.starts, twin.runs, twin.yard), told + (yard,))
        self.assertNotEqual(board.yard, yard)
