"""Points 12.1 to 12.5: told starts."""

import itertools
import random
import time

from toldstarts.base.amounts import Amounts
from toldstarts.errors import InvalidAmounts, InvalidHouse, InvalidJob, InvalidNumber, InvalidTick, Refused, TooMany, UnknownName
from toldstarts.house.machines import Machine
from toldstarts.plan import table, told as module
from toldstarts.plan.places import Yard, earliest_place, is_place_bars
from toldstarts.plan.told import Board, starts_of
from boards import PlainBoard
from helper import Case, some
from odd import EVERY, NO_ASKS, NO_TICKS, all_but, no_integers
from yards import fair_ask, group, is_plain_bars, some_yard, want

CORES = some(core=2)
YARD = Yard((Machine("a", some(core=4)), Machine("b", CORES)), period=10)
BOTH, ONE = (want(group(2, core=2)),), (want(group(1, core=2)),)
ROW = ((1, BOTH, 5), (2, BOTH, 4), (3, ONE, 3))
SINGLE = Yard((Machine("a", CORES),))


def begun():
    """The board of the example, at tick 0."""
    board = Board(YARD, depth=2)
    board.settle(0, ROW)
    return board


class Making(Case):
    def test_constants(self):
        self.assertEqual((module.MAX_DEPTH, module.MAX_MOVES), (20, 1000))
        self.assertEqual(module.MAX_MOVES, table.MOST_MOVES)

    def test_new_boards(self):
        board = Board(YARD)
        self.assertEqual((board.yard, board.now, board.depth, board.fill, board.runs, board.told, board.starts, board.is_settled, board.next_tick, len(board)),
                         (YARD, 0, 5, False, (), (), {}, True, None, 0))
        self.assertEqual([(Board(YARD, depth=depth, fill=fill).depth, Board(YARD, depth=depth, fill=fill).fill) for depth, fill in ((1, True), (20, False))], [(1, True), (20, False)])
        self.assertRaises(TypeError, iter, board)
        for name in ("yard", "now", "depth", "fill", "runs", "told", "starts", "is_settled", "next_tick"):
            with self.assertRaises(AttributeError):
                setattr(board, name, 1)

    def test_wrong_arguments(self):
        waiting = ((1, ONE, 5),)
        for value in all_but(Yard) + [YARD.with_place(1, (0, 0, ((0,),)), 5, ONE)]:
            self.refused(InvalidHouse, Board, value, depth=0, fill=None)
            self.refused(InvalidHouse, starts_of, value, None, depth=0, fill=None)
        for value in no_integers(1, 20):
            self.assertIs(self.refused(InvalidNumber, Board, YARD, depth=value, fill=None).given, value)
            self.assertIs(self.refused(InvalidNumber, starts_of, YARD, waiting, depth=value, fill=None).given, value)
            self.refused(InvalidJob, starts_of, YARD, None, depth=value, fill=None)
        for value in all_but(bool) + [1, 0, "yes"]:
            self.refused(InvalidHouse, Board, YARD, fill=value)
            self.refused(InvalidHouse, starts_of, YARD, waiting, fill=value)
        shut = YARD.with_shut(0, 3, None).with_window(1, 2, 2)
        self.assertEqual(Board(shut).yard, shut)

    def test_twins_and_equality(self):
        board, other = begun(), begun()
        twin = board.twin()
        self.assertEqual((board == other, board != other, twin == board), (True, False, True))
        twin.settle(3, ())
        self.assertNotEqual(twin, board)
        self.assertEqual(board, other)
        twin = board.twin()
        twin.fail(0)
        self.assertEqual(board, other)
        self.refused(UnknownName, board.mend, 0)
        board.fail(0)
        self.assertEqual(board, twin)
        board.twin().mend(0)
        self.refused(Refused, board.fail, 0)
        for value in EVERY + (Board(YARD, depth=2), Board(YARD, depth=3), Board(YARD, depth=2, fill=True)):
            self.assertIs(begun() == value, False)
            self.assertIs(begun() != value, True)
        self.assertNotEqual(Board(YARD, depth=3), Board(YARD, depth=2))
        self.assertNotEqual(Board(YARD, fill=True), Board(YARD))
        late = Board(YARD)
        late.settle(1, ())
        self.assertNotEqual(late, Board(YARD))

    def test_orders_and_runs_make_boards_unlike(self):
        one, other = Board(YARD.with_shut(0, 0, 5).with_shut(1, 0, 5)), Board(YARD.with_shut(0, 0, 5).with_shut(1, 0, 5))
        one.settle(0, ((1, ONE, 5), (2, ONE, 5)))
        other.settle(0, ((2, ONE, 5),))
        other.settle(0, ((1, ONE, 5),))
        self.assertEqual([one.told, other.told], [(1, 2), (2, 1)])
        self.assertNotEqual(one, other)
        other.raised(1, ONE, 5)
        self.assertEqual(one, other)

    def test_texts_and_keys(self):
        board = begun()
        self.assertEqual([str(board), len(board), str(Board(YARD))], ["board at 0, 2 runs, 1 told", 3, "board at 0, 0 runs, 0 told"])
        self.assertEqual([value for value in EVERY + (1, 2, 3, 4) if value in board], [1, 1, 2, 3])
        self.assertEqual((board.runs, board.told, board.starts, board.next_tick), ((1, 3), (2,), {2: 5}, 3))


class Settling(Case):
    def test_examples(self):
        board = Board(YARD, depth=2)
        self.assertEqual(board.settle(0, ROW), (("told", 1, 0), ("told", 2, 5), ("began", 1, (0, 0, ((0, 1),))), ("told", 3, 0), ("began", 3, (0, 0, ((0,),)))))
        self.assertEqual([board.settle(3, ()), board.end(1), board.settle(3, ()), board.runs],
                         [(("ended", 3),), None, (("drawn", 2, 5, 3), ("began", 2, (3, 0, ((0, 1),)))), (2,)])
        row = ((1, BOTH, 5), (2, BOTH, 4), (3, ONE, 9))
        self.assertEqual([starts_of(YARD, row, depth=1), starts_of(YARD, row, depth=1, fill=True)], [{1: 0, 2: 5, 3: 5}, {1: 0, 2: 5, 3: 0}])

    def test_jobs_that_never_start(self):
        never = (want(group(3, core=2)),)
        board = Board(YARD, depth=2, fill=True)
        self.assertEqual(board.settle(0, ((5, never, 1), (4, BOTH, 5), (6, never, 1), (3, BOTH, 4), (2, never, 1))),
                         (("never", 5), ("told", 4, 0), ("never", 6), ("told", 3, 5), ("began", 4, (0, 0, ((0, 1),))), ("never", 2)))
        self.assertEqual(board.settle(0, ((5, never, 1),)), (("never", 5),))
        self.assertEqual(starts_of(YARD, ((5, never, 1), (4, BOTH, 5))), {4: 0, 5: None})

    def test_a_place_that_keeps_its_start_keeps_its_machines(self):
        board = Board(Yard((Machine("a", CORES), Machine("b", CORES))), depth=2)
        board.settle(0, ((1, ONE, 5), (2, ONE, 6), (3, ONE, 4)))
        self.assertEqual(board.yard.places[3][0], (5, 0, ((0,),)))
        board.end(2)
        board.shut(1, 0, 5)
        self.assertEqual((board.settle(0, ()), board.yard.places[3][0]), ((), (5, 0, ((0,),))))
        board.lift(1, 0, 5)
        self.assertEqual(board.settle(0, ()), (("drawn", 3, 5, 0), ("began", 3, (0, 0, ((1,),)))))

    def test_wrong_ticks(self):
        board = begun()
        for value in NO_TICKS + [4, 10]:
            self.refused(InvalidTick, board.settle, value, None)
        board.settle(2, ())
        for value in (0, 1, 4):
            self.refused(InvalidTick, board.settle, value, None)
        self.assertEqual(board.settle(2, ()), ())
        free = Board(YARD)
        self.assertEqual([free.settle(10 ** 6, ()), free.now], [(), 10 ** 6])
        self.refused(InvalidTick, free.settle, 10 ** 6 + 1, ())

    def test_wrong_rows(self):
        board = begun()
        for value in EVERY:
            if value != ():
                self.refused(InvalidJob, board.settle, 0, value)
            self.refused(InvalidJob, board.settle, 0, (value,) if value != (1, ((((1, ("all",), some(core=1)),), Amounts()),), 5) else None)
            if not isinstance(value, int) or isinstance(value, bool) or not 0 <= value <= 10 ** 6:
                self.refused(InvalidJob, board.settle, 0, ((value, ONE, 5),))
            if not isinstance(value, int) or isinstance(value, bool) or not 1 <= value <= 10 ** 6:
                self.refused(InvalidJob, board.settle, 0, ((9, ONE, value),))
        for value in NO_ASKS:
            self.refused(InvalidJob, board.settle, 0, ((9, value, 5),))
        for row in (((9, ONE, 5), (9, BOTH, 4)), ((1, ONE, 5),), ((8, ONE, 5), (2, ONE, 5)), ((9, ONE),), ((9, ONE, 5, 1),), ([9, ONE, 5],), [(9, ONE, 5)]):
            self.refused(InvalidJob, board.settle, 0, row)
        self.assertEqual(board, begun())
        self.assertEqual(board.settle(0, ((0, ONE, 1), (10 ** 6, ONE, 10 ** 6)))[0], ("told", 0, 3))

    def test_too_many_ticks(self):
        always = Yard((Machine("a", CORES), Machine("b", CORES)), period=1).with_window(0, 0, 1)
        board = Board(always, depth=3)
        board.settle(0, ((1, ONE, 19999),))
        self.assertEqual(board.settle(0, ((2, ONE, 1),)), (("told", 2, 19999),))
        before = board.twin()
        self.assertEqual(self.refused(TooMany, board.settle, 0, ((3, ONE, 5), (4, ONE, 5))).most, 20000)
        self.assertEqual(board, before)
        self.assertEqual(board.settle(0, ()), ())

    def test_filling_looks_at_all_places(self):
        """The last job that fills is looked at beside all places, a told one beside those of the others alone."""
        always = Yard((Machine("a", CORES), Machine("b", CORES)), period=1).with_window(0, 0, 1)
        for length, is_fine in ((9999, True), (10000, False)):
            board = Board(always, depth=1, fill=True)
            board.settle(0, ((1, ONE, 10000), (2, ONE, length)))
            self.assertEqual((board.runs, board.starts), ((1,), {2: 10000}))
            before = board.twin()
            if is_fine:
                self.assertEqual(board.settle(0, ((3, ONE, 5),)), ())
            else:
                self.assertEqual(board.settle(0, ()), ())
                self.assertEqual(self.refused(TooMany, board.settle, 0, ((3, ONE, 5),)).most, 20000)
            self.assertEqual(board, before)

    def test_drawing_looks_at_all_told_jobs(self):
        """Also one that cannot come earlier is looked at, beside the places of all others."""
        always = Yard((Machine("a", CORES), Machine("b", CORES)), period=1).with_window(0, 0, 1)
        board = Board(always, depth=3)
        board.settle(0, ((1, ONE, 19000), (2, ONE, 500), (3, ONE, 1000)))
        self.assertEqual(board.starts, {2: 19000, 3: 19500})
        before = board.twin()
        self.assertEqual(self.refused(TooMany, board.settle, 0, ()).most, 20000)
        self.assertEqual(self.refused(TooMany, board.earlier, 2).most, 20000)
        self.assertEqual(self.refused(TooMany, board.bars, 2).most, 20000)
        self.assertEqual([board.earlier(3), board == before], [None, True])
        self.assertEqual(board.settle(501, ()), ())

    def test_two_hundred_places_and_one_more(self):
        board = Board(Yard((Machine("a", some(core=300)),)), depth=20, fill=True)
        row = tuple([(key, (want(group(1, core=1)),), 5) for key in range(201)])
        self.assertEqual(len(board.settle(0, row[:200])), 400)
        self.assertEqual(self.refused(TooMany, board.settle, 0, row[200:]).most, 200)
        self.assertEqual(self.refused(TooMany, board.begin, 200, row[0][1], 5).most, 200)
        self.assertEqual((len(board), len(board.settle(5, row[200:]))), (200, 202))


class Changes(Case):
    def test_ends_and_leavings(self):
        board = begun()
        for value in EVERY + (2, 4):
            if value != 1 or isinstance(value, bool):
                self.assertIs(self.refused(UnknownName, board.end, value).wanted, value)
            if value != 2:
                self.assertIs(self.refused(UnknownName, board.leave, value).wanted, value)
        self.assertEqual([board.leave(2), board.told, board.end(3), board.runs, len(board)], [None, (), None, (1,), 1])
        self.assertEqual(board.settle(0, ()), ())

    def test_shutting(self):
        board = begun()
        for value in no_integers(0, 1):
            self.assertIs(self.refused(InvalidNumber, board.shut, value, None, None).given, value)
        for value in NO_TICKS:
            self.refused(InvalidTick, board.shut, 0, value, None)
            if value is not None:
                self.refused(InvalidTick, board.shut, 0, 0, value)
        self.refused(InvalidTick, board.shut, 0, 5, 5)
        self.assertEqual(self.refused(Refused, board.shut, 0, 0, None).reason, ("runs", (1, 3)))
        self.assertEqual(self.refused(Refused, board.shut, 0, 4, 5).reason, ("runs", (1,)))
        self.assertEqual([board.shut(0, 5, 6), board.shut(1, 9, None), board.starts, board.yard.shut_spans], [((2, 6),), ((2, None),), {}, ((0, 5, 6), (1, 9, None))])
        self.assertEqual(self.refused(Refused, board.shut, 0, 5, 6).reason, ("twice",))
        self.assertEqual(board.shut(0, 5, 7), ())
        board.settle(1, ())
        self.refused(InvalidTick, board.shut, 0, 0, 3)
        self.assertEqual(self.refused(Refused, board.shut, 0, 1, 3).reason, ("runs", (1, 3)))

    def test_broken_places(self):
        """Those that have the machine in these ticks get other places, in told order; a lesser start is no putting off."""
        board = Board(Yard((Machine("a", CORES), Machine("b", CORES))), depth=3)
        board.settle(0, ((9, ONE, 5), (8, ONE, 6), (7, ONE, 5), (6, ONE, 5), (5, ONE, 2)))
        self.assertEqual((board.starts, board.told), ({5: 10, 6: 6, 7: 5}, (7, 6, 5)))
        self.assertEqual((board.shut(0, 7, 30), board.starts, board.told), (((7, 11),), {5: 5, 6: 6, 7: 11}, (7, 6, 5)))
        self.assertEqual((board.shut(1, 6, None), board.starts, board.told), (((7, 30), (6, 35)), {5: 5, 6: 35, 7: 30}, (7, 6, 5)))
        self.assertEqual((board.shut(0, 34, None), board.starts, board.told), (((7, None), (6, None)), {5: 5}, (5,)))

    def test_lifting(self):
        board = begun()
        board.shut(1, 12, 15)
        board.shut(1, 30, None)
        for triple in ((1, 12, None), (0, 12, 15), (True, 12, 15), (1, 12, "15"), (None, 1, 2), ([], {}, ())):
            self.assertEqual(self.refused(UnknownName, board.lift, *triple).wanted, triple)
        self.assertEqual([board.lift(1, 12, 15), board.lift(1, 30, None), board.yard.shut_spans], [None, None, ()])
        self.assertEqual(board, begun())

    def test_failures(self):
        board = begun()
        for value in no_integers(0, 1):
            self.assertIs(self.refused(InvalidNumber, board.fail, value).given, value)
            self.assertIs(self.refused(UnknownName, board.mend, value).wanted, value)
        self.assertEqual(self.refused(UnknownName, board.mend, 0).wanted, 0)
        self.assertEqual((board.fail(0), board.runs, board.told, board.yard.shut_spans), (((1, 3), ((2, None),)), (), (), ((0, 0, None),)))
        self.assertEqual(self.refused(Refused, board.fail, 0).reason, ("twice",))
        self.assertEqual(self.refused(UnknownName, board.lift, 0, 0, None).wanted, (0, 0, None))
        self.assertEqual(self.refused(Refused, board.shut, 0, 0, None).reason, ("twice",))
        self.assertEqual([board.shut(0, 0, 7), board.mend(0), board.yard.shut_spans, board.lift(0, 0, 7), board.fail(0)], [(), None, ((0, 0, 7),), None, ((), ())])

    def test_a_failure_of_a_shut_machine(self):
        """What was shut ahead of the failure stays so when the machine is mended."""
        board = Board(YARD)
        board.shut(0, 0, None)
        self.assertEqual([board.fail(0), board.yard.shut_spans], [((), ()), ((0, 0, None),)])
        self.refused(UnknownName, board.lift, 0, 0, None)
        board.mend(0)
        self.assertEqual(board.yard.shut_spans, ((0, 0, None),))
        board.lift(0, 0, None)
        self.assertEqual(board, Board(YARD))

    def test_two_hundred_spans_and_one_more(self):
        board = Board(YARD)
        for at in range(200):
            board.shut(0, at, None)
        for call in (lambda: board.shut(1, 5, 9), lambda: board.fail(1)):
            self.assertEqual(self.refused(TooMany, call).most, 200)
        self.assertEqual(self.refused(Refused, board.shut, 0, 0, None).reason, ("twice",))
        self.assertEqual((len(board.yard.shut_spans), board.fail(0)), (200, ((), ())))

    def test_raising(self):
        board = Board(SINGLE, depth=3)
        board.settle(0, ((1, ONE, 5), (2, ONE, 4), (3, ONE, 3), (4, ONE, 2)))
        self.assertEqual((board.told, board.starts), ((2, 3, 4), {2: 5, 3: 9, 4: 12}))
        self.assertEqual((board.raised(4, ONE, 2), board.told, board.starts), (((2, 7), (3, 11)), (4, 2, 3), {2: 7, 3: 11, 4: 5}))
        self.assertEqual((board.raised(4, ONE, 2), board.told, board.starts), ((), (4, 2, 3), {2: 7, 3: 11, 4: 5}))
        board.leave(2)
        self.assertEqual((board.raised(7, ONE, 8), board.told, board.starts), (((4, 13), (3, 15)), (7, 4, 3), {3: 15, 4: 13, 7: 5}))
        self.assertEqual((board.raised(3, ONE, 3), board.starts), (((7, 8), (4, 16)), {3: 5, 4: 16, 7: 8}))

    def test_a_raised_job_can_take_the_last_place_of_another_one(self):
        board = Board(SINGLE.with_shut(0, 9, None), depth=3)
        board.settle(0, ((1, ONE, 5), (2, ONE, 4)))
        self.assertEqual((board.starts, board.raised(3, ONE, 1), board.told, board.starts), ({2: 5}, ((2, None),), (3,), {3: 5}))

    def test_errors_of_raising_and_beginning(self):
        board = begun()
        for call in (board.raised, board.begin):
            for value in no_integers(0, 10 ** 6):
                self.assertIs(self.refused(InvalidNumber, call, value, None, 0).given, value)
            for value in NO_ASKS:
                self.refused(InvalidJob, call, 2, value, 0)
                self.refused(InvalidJob, call, 1, value, 0)
                self.refused(InvalidJob, call, 9, value, 0)
            for value in no_integers(1, 10 ** 6):
                self.assertIs(self.refused(InvalidNumber, call, 9, ONE, value).given, value)
                self.assertIs(self.refused(InvalidNumber, call, 2, BOTH, value).given, value)
            # A told job keeps its ask and its length.
            self.refused(InvalidJob, call, 2, ONE, 5)
            self.assertEqual(self.refused(InvalidNumber, call, 2, BOTH, 5).given, 5)
            self.assertEqual(self.refused(Refused, call, 1, ONE, 7).reason, ("runs", (1,)))
        board.settle(0, ((4, ONE, 9),))
        never = (want(group(3, core=2)),)
        self.assertEqual(self.refused(Refused, board.raised, 9, never, 9).reason, ("depth",))
        board.leave(4)
        before = board.twin()
        self.assertEqual(self.refused(Refused, board.raised, 9, never, 9).reason, ("never", 9))
        self.assertEqual(self.refused(Refused, board.begin, 9, never, 9).reason, ("later", None))
        self.assertEqual(self.refused(Refused, board.begin, 2, BOTH, 4).reason, ("later", 5))
        self.assertEqual(self.refused(Refused, board.begin, 9, ONE, 4).reason, ("later", 3))
        self.assertEqual(board, before)

    def test_beginning(self):
        """Whatever the depth is, and no other told job moves."""
        board = Board(Yard((Machine("a", some(core=6)),)), depth=1)
        board.settle(0, ((1, ONE, 5), (2, (want(group(1, core=6)),), 4), (9, ONE, 5)))
        self.assertEqual((board.told, board.starts, board.runs), ((2,), {2: 5}, (1,)))
        self.assertEqual((board.begin(3, ONE, 5), board.runs, board.starts), ((0, 0, ((0,),)), (1, 3), {2: 5}))
        self.assertEqual(self.refused(Refused, board.begin, 4, ONE, 6).reason, ("later", 9))
        board.end(1)
        board.end(3)
        self.assertEqual((board.begin(2, (want(group(1, core=6)),), 4), board.runs, board.told), ((0, 0, ((0,),)), (2,), ()))

    def test_a_told_job_begins_elsewhere(self):
        board = Board(Yard((Machine("a", CORES), Machine("b", CORES))), depth=3)
        board.settle(0, ((1, ONE, 5), (2, ONE, 7), (3, ONE, 4), (4, ONE, 6)))
        self.assertEqual(board.starts, {3: 5, 4: 7})
        board.end(2)
        self.assertEqual((board.begin(4, ONE, 6), board.starts, board.runs, board.earlier(3)), ((0, 0, ((1,),)), {3: 5}, (1, 4), None))

    def test_more(self):
        board = Board(Yard((Machine("a", CORES),), some(lic=1)), depth=2)
        ask = (want(group(core=1), lic=1),)
        self.assertEqual(board.settle(0, ((1, ask, 5), (2, ask, 5)))[-1], ("began", 1, (0, 0, ((0,),))))
        for value in all_but(Amounts):
            self.refused(InvalidAmounts, board.more, value)
        self.refused(InvalidAmounts, board.more, some(lic=10 ** 6))
        self.assertEqual([board.more(some(lic=1, gpu=2)), board.yard.amounts], [None, some(lic=2, gpu=2)])
        self.assertEqual([board.earlier(2), board.bars(2), board.settle(0, ())], [(0, 0, ((0,),)), None, (("drawn", 2, 5, 0), ("began", 2, (0, 0, ((0,),))))])

    def test_earlier_and_bars(self):
        board = begun()
        for value in EVERY + (3, 9):
            if value != 2:
                self.assertIs(self.refused(UnknownName, board.earlier, value).wanted, value)
                self.assertIs(self.refused(UnknownName, board.bars, value).wanted, value)
        self.assertEqual(board.earlier(2), None)
        bars = board.bars(2)
        self.assertEqual(bars[-1][1], 5)
        self.assertIs(is_place_bars(board.yard.without_place(2), BOTH, 4, 0, bars), True)
        board.end(1)
        self.assertEqual([board.earlier(2), board.bars(2)], [(0, 0, ((0, 1),)), None])
        raised = Board(YARD)
        raised.raised(7, ONE, 5)
        self.assertEqual([raised.next_tick, raised.starts, raised.bars(7), raised.earlier(7)], [0, {7: 0}, (), None])
        self.assertEqual(raised.settle(0, ()), (("began", 7, (0, 0, ((0,),))),))


def start_yard(chance):
    """A small yard without places, mostly with one or two spans or windows."""
    while True:
        yard = some_yard(chance, 4)
        if len(yard) == 0:
            return yard


class Pair:
    """A board and a plain board to which the same is done, and the jobs that wait."""

    def __init__(self, case, chance):
        self.case, self.chance, self.first = case, chance, start_yard(chance)
        depth, fill = chance.choice((1, 2, 3, 5)), chance.random() < 0.5
        self.board, self.plain = Board(self.first, depth=depth, fill=fill), PlainBoard(self.first, depth, fill)
        self.jobs, self.row, self.done = {}, [], {}

    def step(self):
        """Do something that is possible, and compare."""
        before, moves = self.board.starts, ("settle",) * 8 + ("end", "end", "leave", "shut", "shut", "lift", "fail", "mend", "mend", "raised", "begin", "begin", "begin", "more")
        word = self.chance.choice(moves)
        if getattr(self, "do_" + word)() is None:
            self.done[word] = self.done.get(word, 0) + 1
        self.compare()
        if word in ("settle", "end", "leave", "lift", "mend", "begin", "more"):
            # 12.5: these only make a told start lesser.
            for key, start in self.board.starts.items():
                self.case.assertLessEqual(start, before.get(key, start))

    def compare(self):
        board, plain = self.board, self.plain
        self.case.assertEqual(board.yard, plain.yard)
        self.case.assertEqual((board.now, board.told, board.runs, board.starts, board.next_tick, board.is_settled, len(board)),
                              (plain.now, tuple(plain.told), tuple(sorted(plain.runs)), plain.starts(), plain.next_tick(), plain.is_settled, len(plain.yard)))

    def do_settle(self):
        while len(self.row) < 4:
            key = len(self.jobs) + 1
            self.jobs[key] = (fair_ask(self.chance, self.first), self.chance.randrange(1, 9))
            self.row.append(key)
        last, ticks = self.board.next_tick, self.chance.choice((0, 1, 5, 50))
        now = self.board.now + ticks if last is None else min(last, self.board.now + ticks)
        waiting = tuple([(key, *self.jobs[key]) for key in self.row])
        self.case.assertEqual(self.board.settle(now, waiting), self.plain.settle(now, waiting))
        self.row = [key for key in self.row if key not in self.board]
        self.row = self.row[self.chance.random() < 0.3:]
        if self.board.is_settled:
            for key in self.board.told:
                ask, length = self.jobs[key]
                bars, rest = self.board.bars(key), self.board.yard.without_place(key)
                self.case.assertIsNone(self.board.earlier(key))
                self.case.assertIs(is_place_bars(rest, ask, length, now, bars), True)
                self.case.assertTrue(is_plain_bars(rest, ask, length, now, bars))
                self.case.assertEqual(bars[-1][1] if bars else now, self.board.starts[key])

    def do_end(self):
        if self.board.runs:
            key = self.chance.choice(self.board.runs)
            self.case.assertEqual(self.board.end(key), self.plain.end(key))
            return None
        return "nothing"

    def do_leave(self):
        if self.board.told:
            key = self.chance.choice(self.board.told)
            self.case.assertEqual(self.board.leave(key), self.plain.leave(key))
            return None
        return "nothing"

    def do_shut(self):
        machine, begin = self.chance.randrange(len(self.first.machines)), self.board.now + self.chance.randrange(5)
        end = self.chance.choice((None, begin + 1, begin + 2, begin + 5))
        runs = tuple([key for key in self.board.runs if self.plain.has(key, machine, begin, end)])
        if runs or (machine, begin, end) in self.board.yard.shut_spans:
            reason = self.case.refused(Refused, self.board.shut, machine, begin, end).reason
            self.case.assertEqual(reason, ("runs", runs) if runs else ("twice",))
            return reason
        self.case.assertEqual(self.board.shut(machine, begin, end), self.plain.shut(machine, begin, end))

    def do_lift(self):
        if not self.board.yard.shut_spans:
            return "nothing"
        span = self.chance.choice(self.board.yard.shut_spans)
        if span[2] is None and self.plain.failed.get(span[0]) == span[1]:
            return self.case.refused(UnknownName, self.board.lift, *span).wanted
        self.case.assertEqual(self.board.lift(*span), self.plain.lift(*span))

    def do_fail(self):
        machine = self.chance.randrange(len(self.first.machines))
        if machine in self.plain.failed:
            return self.case.refused(Refused, self.board.fail, machine).reason
        if (machine, self.board.now, None) in self.board.yard.shut_spans:
            return "nothing"
        self.case.assertEqual(self.board.fail(machine), self.plain.fail(machine))

    def do_mend(self):
        machine = self.chance.randrange(len(self.first.machines))
        if machine not in self.plain.failed:
            return self.case.refused(UnknownName, self.board.mend, machine).wanted
        self.case.assertEqual(self.board.mend(machine), self.plain.mend(machine))

    def some_key(self):
        pool = self.board.told if self.chance.random() < 0.5 else self.row
        return self.chance.choice(pool) if pool else None

    def do_raised(self):
        key = self.some_key()
        if key is None:
            return "nothing"
        rest = self.board.yard
        for other in self.board.told:
            rest = rest.without_place(other)
        is_full = key not in self.board.told and len(self.board.told) >= self.board.depth
        if is_full or earliest_place(rest, *self.jobs[key], self.board.now) is None:
            reason = self.case.refused(Refused, self.board.raised, key, *self.jobs[key]).reason
            self.case.assertEqual(reason, ("depth",) if is_full else ("never", key))
            return reason
        self.case.assertEqual(self.board.raised(key, *self.jobs[key]), self.plain.raised(key, *self.jobs[key]))
        self.row = [other for other in self.row if other != key]

    def do_begin(self):
        key = self.some_key()
        if key is None:
            return "nothing"
        rest = self.board.yard.without_place(key) if key in self.board else self.board.yard
        place = earliest_place(rest, *self.jobs[key], self.board.now)
        if place is None or place[0] > self.board.now:
            reason = self.case.refused(Refused, self.board.begin, key, *self.jobs[key]).reason
            self.case.assertEqual(reason, ("later", place[0] if place else None))
            return reason
        starts = self.board.starts
        self.case.assertEqual(self.board.begin(key, *self.jobs[key]), self.plain.begin(key, *self.jobs[key]))
        starts.pop(key, None)
        self.case.assertEqual(self.board.starts, starts)
        self.row = [other for other in self.row if other != key]

    def do_more(self):
        amounts = self.chance.choice((some(), some(lic=1), some(seat=1), some(gpu=1)))
        if self.board.yard.amounts["lic"] > 6:
            return "nothing"
        self.board.more(amounts)
        self.plain.yard = self.plain.yard.with_more(amounts)


class Plain(Case):
    def test_against_a_plain_board(self):
        chance, done = random.Random(121), {}
        for _ in range(150):
            pair = Pair(self, chance)
            for _ in range(25):
                pair.step()
            for word, many in pair.done.items():
                done[word] = done.get(word, 0) + many
        self.assertEqual(len(done), 10)
        self.assertGreater(min(done.values()), 10, done)

    def test_few_moves(self):
        """Drawing ends behind the most moves; then the board is not settled, and goes on with the next settling."""
        row = tuple([(key, ONE, 3) for key in range(1, 7)])
        for most in range(1, 7):
            self.addCleanup(setattr, table, "MOST_MOVES", 1000)
            self.addCleanup(setattr, PlainBoard, "most_moves", 1000)
            table.MOST_MOVES = PlainBoard.most_moves = most
            board, plain = Board(SINGLE), PlainBoard(SINGLE)
            self.assertEqual(board.settle(0, row), plain.settle(0, row))
            board.end(1)
            plain.end(1)
            events = board.settle(0, ())
            self.assertEqual(events, plain.settle(0, ()))
            self.assertEqual(len([event for event in events if event[0] == "drawn"]), min(most, 5))
            # The most moves are enough only if nobody would move next.
            self.assertEqual((board.is_settled, plain.is_settled, board.twin().is_settled), (most > 5,) * 3)
            while not plain.is_settled:
                self.assertEqual(board.settle(0, ()), plain.settle(0, ()))
                self.assertEqual((board.is_settled, board.starts), (plain.is_settled, plain.starts()))

    def test_long_chains_of_moves(self):
        """A gap goes through all told jobs: each one moves once, whatever the order."""
        row = tuple([(key, ONE, 3) for key in range(1, 22)])
        board = Board(SINGLE, depth=20)
        board.settle(0, row)
        board.end(1)
        events = board.settle(0, ())
        self.assertEqual([event[:2] for event in events[:20]], [("drawn", key) for key in range(2, 22)])
        self.assertEqual((board.is_settled, board.starts), (True, {key: 3 * (key - 2) for key in range(3, 22)}))

    def test_latest_starts_of_deep_boards(self):
        """12.5: with enough depth nobody starts later than told, whatever true lengths the runs have."""
        chance, many = random.Random(122), 0
        for _ in range(60):
            yard = start_yard(chance)
            jobs = [(key, fair_ask(chance, yard), chance.randrange(1, 4)) for key in range(chance.randrange(2, 5))]
            board = Board(yard, fill=chance.random() < 0.5)
            told = {event[1]: event[2] for event in board.settle(0, tuple(jobs)) if event[0] == "told"}
            latest = {key: 0 for key in told}
            for lengths in itertools.product(*[range(1, job[2] + 1) for job in jobs]):
                starts = run_through(yard, jobs, lengths, board.fill)
                latest = {key: max(latest[key], starts[key]) for key in told}
            self.assertEqual(latest, told)
            many += len(told)
        self.assertGreater(many, 100)


def run_through(yard, jobs, lengths, fill):
    """The starts of jobs with some true lengths, on a plain board with enough depth."""
    board, starts, gone = PlainBoard(yard, 5, fill), {}, set()
    true = {job[0]: length for job, length in zip(jobs, lengths)}
    now = 0
    while now == 0 or board.runs or board.told:
        for _ in range(2):
            for event in board.settle(now, [job for job in jobs if job[0] not in starts and job[0] not in board.told and job[0] not in gone]):
                if event[0] == "began":
                    starts[event[1]] = now
                if event[0] == "never":
                    gone.add(event[1])
            for key in sorted(board.runs):
                if starts[key] + true[key] == now:
                    board.end(key)
        now += 1
    return starts


class Starts(Case):
    def test_against_a_plain_board(self):
        chance, found = random.Random(123), [0, 0, 0]
        for _ in range(250):
            yard = start_yard(chance)
            waiting = tuple([(key, fair_ask(chance, yard), chance.randrange(1, 7)) for key in chance.sample(range(50), chance.randrange(7))])
            depth, fill = chance.choice((1, 1, 2, 5)), chance.random() < 0.5
            plain, starts, now = PlainBoard(yard, depth, fill), {key: None for key, _, _ in waiting}, 0
            while now is not None:
                rest = [row for row in waiting if starts[row[0]] is None and row[0] not in plain.told]
                for event in plain.settle(now, rest):
                    if event[0] == "began":
                        starts[event[1]] = event[2][0]
                now = plain.next_tick()
            answer = starts_of(yard, waiting, depth=depth, fill=fill)
            self.assertEqual(answer, starts)
            self.assertEqual(list(answer), sorted(starts))
            for start in starts.values():
                found[0 if start is None else 1 if start == 0 else 2] += 1
        self.assertGreater(min(found), 60)

    def test_defaults(self):
        self.assertEqual(starts_of(YARD, ROW), starts_of(YARD, ROW, depth=5, fill=False))
        self.assertEqual(starts_of(YARD, ()), {})

    def test_long_jobs(self):
        row = tuple([(key, BOTH, 10 ** 6) for key in range(4)])
        self.assertEqual(starts_of(YARD, row), {key: key * 10 ** 6 for key in range(4)})
        self.assertEqual(starts_of(YARD, row[:3], depth=1), {key: key * 10 ** 6 for key in range(3)})

    def test_errors_in_order(self):
        for value in EVERY:
            if value != ():
                self.refused(InvalidJob, starts_of, YARD, value, depth=0)
        self.refused(InvalidJob, starts_of, YARD, ((1, ONE, 5), (1, ONE, 5)))
        always = YARD.with_window(0, 0, 1).with_shut(1, 0, 10 ** 6)
        self.assertEqual(self.refused(TooMany, starts_of, always, ((1, BOTH, 5),)).most, 20000)

    def test_the_greatest_boards(self):
        """Where a test looks at the time, it allows several times what it takes."""
        yard = Yard(tuple([Machine("m%d" % at, some(core=4), rack="r" + "abcdefgh"[at % 8]) for at in range(40)]))
        row = tuple([(key, (want(group(1 + key % 13, core=1 + key % 4)),), 5 + key % 17) for key in range(60)])
        begin = time.perf_counter()
        starts = starts_of(yard, row, depth=20, fill=True)
        self.assertLess(time.perf_counter() - begin, 2.0)
        self.assertEqual([starts[key] for key in (0, 1, 2)], [0, 0, 0])
