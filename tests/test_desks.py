"""Point 16.5: desks."""

import random

from toldstarts.errors import InvalidDeed, InvalidHouse, InvalidNumber, InvalidPaper, Refused, TooMany, UnknownName
from toldstarts.plan.limits import Doors
from toldstarts.work import desk as module
from toldstarts.work.desk import Desk
from toldstarts.work.log import Log
from helper import Case, a_job
from houses import some_deed
from odd import EVERY, all_but
from test_logs import BIG, LOG, SETTING, some_log


def told_desk():
    """A desk at which job 1 runs, and the jobs 2 and 3 are told 5 and 10."""
    return Desk(Log(SETTING, (("come", BIG),) * 3))


def holds(log, pledge):
    """Whether a pledge holds, from the events of the log."""
    word, number = pledge[:2]
    house, events = log.house(), [event for row in log.events for event in row]
    if number not in house:
        return False
    if word == "kept":
        return not any([event[1] == "put off" and event[2] == number for event in events])
    if word == "runs":
        return house.stands(number) in ("runs", "over")
    start = None
    for tick, what, one, *_ in events:
        if one == number and what in ("began", "back"):
            start = tick if what == "began" else None
    start = house.told_starts.get(number, start)
    return start is not None and start <= pledge[2]


class Making(Case):
    def test_constants(self):
        self.assertEqual(module.MAX_PLEDGES, 20)

    def test_new_desks(self):
        desk = Desk(LOG)
        self.assertEqual((desk.log, desk.pledges, len(desk), str(desk), desk.house()), (LOG, (), 4, "desk of 4 deeds, 0 pledges", LOG.house()))
        self.assertRaises(TypeError, iter, desk)
        for value in all_but(Log):
            self.refused(InvalidHouse, Desk, value)
        for name in ("log", "pledges"):
            with self.assertRaises(AttributeError):
                setattr(desk, name, ())
        house = desk.house()
        house.do(("wait", 1))
        self.assertEqual((desk.house().now, desk.log), (2, LOG))

    def test_equality_and_twins(self):
        desk = told_desk()
        self.assertEqual((desk == told_desk(), desk != told_desk()), (True, False))
        desk.do(("wait", 1))
        self.assertNotEqual(desk, told_desk())
        twin = desk.twin()
        self.assertEqual((twin, twin.undo(), twin == told_desk(), len(desk)), (twin, 3, True, 4))
        self.assertEqual((desk.undo(), desk == twin, desk.redo(), twin.redo(), desk == twin), (3, True, 4, 4, True))
        twin.demand(("kept", 2))
        self.assertEqual((desk == twin, desk.pledges), (False, ()))
        for value in EVERY + (LOG,):
            self.assertIs(desk == value, False)
            self.assertIs(desk != value, True)

    def test_pledges_in_desks(self):
        desk = told_desk()
        desk.demand(("start", 2, 5))
        desk.demand(("kept", 1))
        self.assertEqual((("start", 2, 5) in desk, ("kept", 1) in desk, ("kept", True) in desk, ("start", 2, 6) in desk, ["kept", 1] in desk), (True, True, False, False, False))
        self.assertEqual([value for value in EVERY if value in desk], [])
        self.assertEqual((desk.pledges, str(desk)), ((("start", 2, 5), ("kept", 1)), "desk of 3 deeds, 2 pledges"))


class Changes(Case):
    def test_examples(self):
        desk = Desk(LOG.until(2))
        self.assertEqual([desk.demand(("start", 2, 5)), desk.do(("wait", 2)), str(desk)], [None, (), "desk of 3 deeds, 1 pledges"])
        self.assertEqual(self.refused(Refused, desk.edit, 0, 0, (("wait", 1),)).reason, ("pledge", ("start", 2, 5)))
        self.assertEqual([desk.edit(2, 1, (("wait", 1), ("wait", 1))), desk.house().now, desk.undo(many=2), desk.pledges, desk.redo(), desk.redo()],
                         [3, 2, 2, (("start", 2, 5),), 3, 4])

    def test_deeds_and_edits(self):
        desk = Desk(LOG)
        self.assertEqual((desk.do(("come", BIG)), desk.log), (LOG.with_deed(("come", BIG)).events[-1], LOG.with_deed(("come", BIG))))
        for at, gone, deeds, first in ((5, 0, (("wait", 1),), 5), (4, 1, (), 4), (3, 1, (("end", 1, "ill"),), 3), (2, 1, (("wait", 1), ("wait", 1)), 3), (0, 0, (), None), (2, 1, (("wait", 2),), None)):
            old = desk.log
            self.assertEqual((desk.edit(at, gone, deeds), desk.log), (first, old.edited(at, gone, deeds)))
            desk.undo()
            self.assertEqual(desk.log, old)

    def test_errors_of_deeds_and_edits(self):
        desk = told_desk()
        desk.demand(("kept", 2))
        for value in EVERY:
            if value not in (("come", a_job()), ("wait", 1)):
                self.refused(InvalidDeed, desk.do, value)
        self.assertEqual(self.refused(UnknownName, desk.do, ("leave", 7)).wanted, 7)
        self.assertEqual(self.refused(Refused, desk.do, ("end", 2, "well")).reason, ("stands", 2, "told"))
        self.assertEqual(self.refused(InvalidNumber, desk.edit, 4, 0, ()).given, 4)
        self.assertEqual(self.refused(InvalidNumber, desk.edit, 2, 2, ()).given, 2)
        self.refused(InvalidDeed, desk.edit, 2, 1, None)
        self.assertEqual(self.refused(Refused, desk.edit, 2, 1, (("leave", 9),)).reason, ("deed", 2))
        self.assertEqual(self.refused(Refused, desk.do, ("hold", 2)).reason, ("pledge", ("kept", 2)))
        # The first pledge that would not hold, in the order of the demands.
        desk.demand(("start", 3, 10))
        desk.demand(("start", 2, 5))
        self.assertEqual([self.refused(Refused, desk.do, deed).reason[1] for deed in (("raise", 3), ("leave", 3), ("leave", 2), ("shut", ("a",), 10, 11))],
                         [("kept", 2), ("start", 3, 10), ("start", 2, 5), ("start", 3, 10)])
        self.assertEqual(self.refused(Refused, desk.edit, 0, 3, ()).reason, ("pledge", ("kept", 2)))
        self.assertEqual((len(desk), desk.pledges, desk.undo(many=3), self.refused(Refused, desk.undo).reason), (3, (("kept", 2), ("start", 3, 10), ("start", 2, 5)), 3, ("few", 0)))
        full = Desk(Log(SETTING, (("wait", 1),) * 1000))
        self.assertEqual([self.refused(TooMany, call, *args).most for call, args in ((full.do, (("wait", 1),)), (full.edit, (0, 0, (("wait", 1),))))], [1000, 1000])

    def test_demands(self):
        desk = told_desk()
        wrong = EVERY + (("start", 2), ("start", 2, 5, 1), ("start", "2", 5), ("start", True, 5), ("start", 2, -1), ("start", 2, 1000001), ("start", 2, True), ("start", 2, None), ["kept", 2], ("kept", 2, 1), ("kept",),
                         ("kept", None), ("runs", (1,)), ("runs", 10 ** 60), ("ends", 2), (["kept"], 2), ("kept", 2.5))
        for value in wrong:
            self.refused(InvalidPaper, desk.demand, value)
            self.refused(InvalidPaper, desk.waive, value)
        for number in (0, -5, 4, 10 ** 59):
            for pledge in (("start", number, 5), ("kept", number), ("runs", number)):
                self.assertEqual(self.refused(UnknownName, desk.demand, pledge).wanted, number)
                self.refused(InvalidPaper, desk.waive, pledge)
        for pledge in (("start", 2, 4), ("start", 3, 0), ("runs", 2), ("runs", 3)):
            self.assertEqual(self.refused(Refused, desk.demand, pledge).reason, ("pledge", pledge))
        self.assertEqual([desk.demand(pledge) for pledge in (("start", 2, 5), ("start", 2, 1000000), ("start", 1, 0), ("runs", 1), ("kept", 3))], [None] * 5)
        self.refused(InvalidPaper, desk.demand, ("runs", 1))
        self.assertEqual((desk.waive(("start", 1, 0)), desk.pledges), (None, (("start", 2, 5), ("start", 2, 1000000), ("runs", 1), ("kept", 3))))
        self.refused(InvalidPaper, desk.waive, ("start", 1, 0))
        desk.demand(("start", 1, 0))
        self.assertEqual((desk.pledges[-1], desk.undo(many=2), desk.pledges[2]), (("start", 1, 0), 3, ("start", 1, 0)))

    def test_twenty_pledges_and_one_more(self):
        desk = told_desk()
        for tick in range(10, 30):
            desk.demand(("start", 3, tick))
        self.assertEqual(self.refused(TooMany, desk.demand, ("start", 3, 5)).most, 20)
        self.assertEqual(self.refused(UnknownName, desk.demand, ("start", 4, 5)).wanted, 4)
        self.refused(InvalidPaper, desk.demand, ("start", 3, 10))
        desk.waive(("start", 3, 11))
        self.assertEqual(self.refused(Refused, desk.demand, ("start", 3, 5)).reason, ("pledge", ("start", 3, 5)))
        self.assertEqual((desk.demand(("kept", 1)), len(desk.pledges)), (None, 20))

    def test_what_pledges_say(self):
        """A job that was put back counts by its next start."""
        desk = told_desk()
        desk.do(("fail", "a"))
        for pledge in (("start", 1, 1000000), ("runs", 1), ("kept", 2), ("start", 2, 1000000)):
            self.assertEqual(self.refused(Refused, desk.demand, pledge).reason, ("pledge", pledge))
        desk.demand(("kept", 1))
        desk.do(("wait", 7))
        desk.do(("mend", "a"))
        desk.demand(("start", 1, 7))
        self.assertEqual(self.refused(Refused, desk.demand, ("start", 1, 6)).reason, ("pledge", ("start", 1, 6)))
        desk.do(("end", 1, "ill"))
        self.assertEqual([desk.demand(("runs", 1)), ("start", 1, 7) in desk], [None, True])
        desk.do(("leave", 3))
        self.assertEqual([desk.demand(("runs", 3)), self.refused(Refused, desk.demand, ("start", 3, 99)).reason[0]], [None, "pledge"])

    def test_put_back_and_gone(self):
        desk = Desk(Log(SETTING, (("come", BIG), ("wait", 2), ("fail", "a"), ("leave", 1))))
        self.assertEqual((desk.house().state(1), self.refused(Refused, desk.demand, ("start", 1, 9)).reason, desk.demand(("runs", 1))), ("gone", ("pledge", ("start", 1, 9)), None))

    def test_undo_and_redo(self):
        desk = told_desk()
        for value in [value for value in EVERY if isinstance(value, bool) or not isinstance(value, int) or value < 0 or value >= 10 ** 60]:
            for call in (desk.undo, desk.redo):
                self.assertIs(self.refused(InvalidNumber, call, many=value).given, value)
        self.assertRaises(TypeError, desk.undo, 1)
        self.assertEqual([desk.undo(many=0), desk.redo(many=0)], [3, 3])
        self.assertEqual([self.refused(Refused, call, many=10 ** 59).reason for call in (desk.undo, desk.redo)], [("few", 0)] * 2)
        desk.do(("wait", 1))
        desk.demand(("kept", 2))
        desk.edit(0, 0, (("wait", 1),))
        desk.waive(("kept", 2))
        self.assertEqual(self.refused(Refused, desk.undo, many=5).reason, ("few", 4))
        self.assertEqual([(desk.undo(), desk.pledges), (desk.undo(), desk.pledges), (desk.undo(), desk.pledges), (desk.undo(), desk.pledges)],
                         [(5, (("kept", 2),)), (4, (("kept", 2),)), (4, ()), (3, ())])
        self.assertEqual([desk.redo(many=3), self.refused(Refused, desk.redo, many=2).reason, desk.redo(), desk.redo(many=0), desk.undo(many=2)], [5, ("few", 1), 5, 5, 4])
        # Another change: nothing is left to be done again. A refused one leaves it.
        self.refused(Refused, desk.do, ("hold", 2))
        self.assertEqual(desk.redo(), 5)
        desk.undo()
        desk.do(("wait", 3))
        self.assertEqual(self.refused(Refused, desk.redo).reason, ("few", 0))
        self.assertEqual((len(desk), desk.undo(many=3), desk == told_desk()), (5, 3, True))

    def test_pledges_are_not_asked_by_undo(self):
        desk = told_desk()
        desk.demand(("start", 2, 5))
        desk.undo()
        desk.do(("hold", 2))
        self.assertEqual((desk.undo(), desk.pledges), (3, ()))


class Trials(Case):
    def test_trials(self):
        desk = told_desk()
        desk.do(("wait", 1))
        desk.demand(("kept", 2))
        desk.undo()
        before = desk.twin()
        with desk.trial() as same:
            self.assertIs(same, desk)
            same.do(("wait", 2))
            same.undo(many=2)
            same.demand(("start", 3, 10))
            self.assertEqual((len(desk), desk.pledges), (3, (("start", 3, 10),)))
        self.assertEqual((desk, len(desk), desk.pledges), (before, 4, ()))
        # The changes that can be taken back and done again are there as well.
        self.assertEqual((desk.redo(), desk.pledges, desk.undo(many=2), desk == told_desk()), (4, (("kept", 2),), 3, True))

    def test_pledges_behind_a_trial(self):
        """Pledges that were demanded ahead of the block are demanded behind it, whatever was done with them in it."""
        desk = told_desk()
        desk.demand(("kept", 2))
        desk.demand(("start", 3, 10))
        desk.demand(("runs", 1))
        desk.undo()
        before = (desk.log, (("kept", 2), ("start", 3, 10)))
        with desk.trial():
            desk.waive(("kept", 2))
            desk.do(("hold", 2))
            self.assertEqual(desk.pledges, (("start", 3, 10),))
        self.assertEqual(((desk.log, desk.pledges), ("kept", 2) in desk), (before, True))
        with desk.trial():
            desk.undo(many=2)
            self.assertEqual(desk.pledges, ())
        self.assertEqual((desk.log, desk.pledges), before)
        self.assertEqual((desk.redo(), desk.pledges), (3, before[1] + (("runs", 1),)))
        self.assertEqual(self.refused(Refused, desk.do, ("hold", 2)).reason, ("pledge", ("kept", 2)))

    def test_twins_have_the_same_changes(self):
        desk = told_desk()
        desk.demand(("kept", 2))
        desk.do(("wait", 1))
        desk.demand(("runs", 1))
        desk.undo(many=2)
        twin = desk.twin()
        self.assertEqual((twin, twin.pledges, len(twin)), (desk, (("kept", 2),), 3))
        self.assertEqual((twin.redo(many=2), twin.pledges), (4, (("kept", 2), ("runs", 1))))
        self.assertEqual((len(desk), desk.pledges, self.refused(Refused, twin.redo).reason), (3, (("kept", 2),), ("few", 0)))
        self.assertEqual((twin.undo(many=3), twin.pledges, desk.redo(), desk.undo(many=2), desk == twin), (3, (), 4, 3, True))

    def test_trials_that_end_with_an_error(self):
        desk = told_desk()
        for error in (KeyError(7), Refused(("x",)), ValueError()):
            with self.assertRaises(type(error)) as caught:
                with desk.trial() as same:
                    same.do(("wait", 1))
                    raise error
            self.assertIs(caught.exception, error)
            self.assertEqual((desk, self.refused(Refused, desk.undo).reason), (told_desk(), ("few", 0)))
        with self.assertRaises(UnknownName):
            desk.during(lambda same: (same.do(("wait", 1)), same.do(("leave", 9))))
        self.assertEqual(desk, told_desk())

    def test_during(self):
        desk = told_desk()
        self.assertEqual(desk.during(lambda same: (same is desk, same.do(("wait", 5))[1][1], len(desk))), (True, "began", 4))
        self.assertEqual((desk, desk.during(len), desk.during(lambda same: None)), (told_desk(), 3, None))

    def test_trials_in_trials(self):
        desk = told_desk()
        with desk.trial():
            desk.do(("wait", 1))
            with desk.trial():
                desk.do(("wait", 1))
                self.assertEqual(len(desk), 5)
            self.assertEqual((len(desk), desk.during(lambda same: same.undo())), (4, 3))
            self.assertEqual(len(desk), 4)
        self.assertEqual(desk, told_desk())

    def test_begun_when_the_block_is_entered(self):
        desk = told_desk()
        trial = desk.trial()
        desk.do(("wait", 1))
        with trial:
            desk.do(("wait", 1))
        self.assertEqual(len(desk), 4)


class Plain(Case):
    def test_against_a_list_of_states(self):
        """All states are kept in a list here; pledges are looked up in the events of the log."""
        chance, done = random.Random(165), {}
        for _ in range(300):
            setting, deeds, _, _ = some_log(chance, 50)
            desk = Desk(Log(setting, deeds[:len(deeds) // 2]))
            self.states, self.at, self.rest = [(desk.log, ())], 0, list(deeds[len(deeds) // 2:])
            for _ in range(14):
                word = chance.choice(("do", "do", "edit", "demand", "demand", "demand", "waive", "undo", "redo"))
                result = getattr(self, "do_" + word)(chance, desk)
                done[(word, result)] = done.get((word, result), 0) + 1
                self.assertEqual((desk.log, desk.pledges), self.states[self.at])
                self.assertEqual(desk.house(), self.states[self.at][0].house())
        self.assertGreater(min([done.get(key, 0) for key in (("do", "done"), ("do", "refused"), ("edit", "done"), ("edit", "pledge"), ("demand", "done"), ("demand", "pledge"), ("waive", "done"),
                                                             ("undo", "done"), ("undo", "few"), ("redo", "done"), ("redo", "few"))]), 3, done)

    def change(self, log, pledges):
        self.at += 1
        self.states[self.at:] = [(log, pledges)]
        return "done"

    def try_log(self, desk, make, change, answer):
        """A change of the log: done, or refused as by the log, or by the first pledge that would not hold."""
        old, pledges = self.states[self.at]
        try:
            log = make(old)
        except (Refused, UnknownName, TooMany, InvalidDeed) as error:
            self.assertEqual(vars(self.refused(type(error), change)), vars(error))
            return "refused"
        wrong = [pledge for pledge in pledges if not holds(log, pledge)]
        if wrong:
            self.assertEqual(self.refused(Refused, change).reason, ("pledge", wrong[0]))
            return "pledge"
        self.assertEqual(change(), answer(old, log))
        return self.change(log, pledges)

    def do_do(self, chance, desk):
        deed = self.rest.pop(0) if self.rest and chance.random() < 0.6 else some_deed(chance, desk.house())
        return self.try_log(desk, lambda log: log.with_deed(deed), lambda: desk.do(deed), lambda old, log: log.events[-1])

    def do_edit(self, chance, desk):
        index = chance.randrange(len(desk) + 1)
        gone = chance.randrange(min(2, len(desk) - index) + 1)
        others = tuple([some_deed(chance, desk.house()) for _ in range(chance.randrange(2))])

        def first(old, log):
            rows = [list(old.events) + [None] * len(log), list(log.events) + [None] * len(old)]
            unlike = [at for at, (one, other) in enumerate(zip(*rows)) if one != other]
            return unlike[0] if unlike else None

        return self.try_log(desk, lambda log: log.edited(index, gone, others), lambda: desk.edit(index, gone, others), first)

    def do_demand(self, chance, desk):
        log, pledges = self.states[self.at]
        if not len(log.house()):
            return "nothing"
        number = chance.randrange(1, len(log.house()) + 1)
        pledge = chance.choice((("start", number, chance.randrange(60)), ("start", number, log.house().now + 2), ("kept", number), ("runs", number)))
        if pledge in pledges:
            self.refused(InvalidPaper, desk.demand, pledge)
            return "twice"
        if not holds(log, pledge):
            self.assertEqual(self.refused(Refused, desk.demand, pledge).reason, ("pledge", pledge))
            return "pledge"
        self.assertIsNone(desk.demand(pledge))
        return self.change(log, pledges + (pledge,))

    def do_waive(self, chance, desk):
        log, pledges = self.states[self.at]
        if not pledges:
            return "nothing"
        pledge = chance.choice(pledges)
        self.assertIsNone(desk.waive(pledge))
        return self.change(log, tuple([one for one in pledges if one != pledge]))

    def do_undo(self, chance, desk):
        return self.go(desk.undo, chance.randrange(4), -1, self.at)

    def do_redo(self, chance, desk):
        return self.go(desk.redo, chance.randrange(3), 1, len(self.states) - 1 - self.at)

    def go(self, call, many, way, most):
        if many > most:
            self.assertEqual(self.refused(Refused, call, many=many).reason, ("few", most))
            return "few"
        self.at += way * many
        self.assertEqual(call(many=many), len(self.states[self.at][0]))
        return "done"


class Setting(Case):
    def test_limits_of_doors(self):
        """The pledges speak of the house of the log, whatever its setting is."""
        log = Log(SETTING[:2] + (Doors((("day", 5),)),) + SETTING[3:], (("come", BIG), ("come", BIG)))
        desk = Desk(log)
        desk.demand(("start", 2, 5))
        self.assertEqual(desk.do(("wait", 5))[-1][1:3], ("began", 2))
        self.assertEqual(desk.pledges, (("start", 2, 5),))
