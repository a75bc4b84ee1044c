"""Points 13.1 to 13.5: lineups."""

import itertools
import random
import time

from toldstarts.errors import InvalidHouse, InvalidJob, InvalidNumber, InvalidPaper, Refused, TooMany, UnknownName
from toldstarts.house.machines import Machine
from toldstarts.plan.places import Yard
from toldstarts.sure import graph, lineups as module
from toldstarts.sure.lineups import Lineup, bound_table, is_bound_table, is_lengths_to, is_puts_off, latest_starts, lengths_to
from toldstarts.sure.lineups import puts_off, starts_by
from boards import PlainBoard
from helper import Case, some
from odd import EVERY, all_but, no_integers
from yards import ALL, NOTHING, fair_ask, group, some_machines, want

HALF, FULL = (want(group(1, core=1)),), (want(group(1, core=2)),)
JOBS = ((1, HALF, 4), (2, HALF, 3), (3, FULL, 4), (4, HALF, 1))
PAIR = Yard((Machine("m", some(core=2)),))
ORDER, FIRST, LINED = Lineup(PAIR, JOBS, depth=1), Lineup(PAIR, JOBS, depth=1, fill=True), Lineup(PAIR, JOBS)
END = ((), (), ())
# Jobs with which the lengths themselves do not reach the latest starts.
LATE = (((HALF, HALF, FULL, HALF), (2, 4, 1, 2)), ((HALF, HALF, FULL, HALF), (3, 2, 2, 1)), ((HALF, FULL, HALF, HALF), (4, 1, 2, 2)),
        ((HALF, FULL, HALF, HALF), (4, 3, 2, 1)), ((HALF, HALF, FULL, HALF), (4, 2, 3, 2)))


class Plain:
    """All that true lengths lead to in a lineup, with a plain board from the beginning each time."""

    def __init__(self, lineup):
        self.lineup, self.jobs = lineup, lineup.jobs
        self.keys = [key for key, _, _ in self.jobs]
        self.starts, self.nexts = {}, {}
        for lengths in itertools.product(*[range(1, length + 1) for _, _, length in self.jobs]):
            self.starts[lengths], stands = self.run(dict(zip(self.keys, lengths)))
            for one, early, other in stands:
                self.nexts.setdefault(one, {})[early] = other
        self.latest = {key: max([starts[key] for starts in self.starts.values()]) for key in self.keys}

    def settle(self, board, now, starts):
        waiting = [job for job in self.jobs if job[0] not in starts and job[0] not in board.told]
        for event in board.settle(now, waiting):
            if event[0] == "began":
                starts[event[1]] = now

    def run(self, true):
        """13.2 from its words: the starts, and the triples (stand, keys that end early, next stand)."""
        board, starts, now, rows = PlainBoard(self.lineup.yard, self.lineup.depth, self.lineup.fill), {}, 0, []
        self.settle(board, 0, starts)
        while board.runs or board.told:
            stand, now = self.stand(board, starts), now + 1
            self.settle(board, now, starts)
            early = tuple([key for key in sorted(board.runs) if starts[key] + true[key] == now])
            for key in early:
                board.end(key)
            if early:
                self.settle(board, now, starts)
            rows.append((stand, early, self.stand(board, starts)))
        return starts, rows + [(END, (), END)]

    def stand(self, board, starts):
        places = {key: place for key, (place, _, _) in board.yard.places.items()}
        runs = tuple([(key, board.now - places[key][0]) + places[key][1:] for key in sorted(board.runs)])
        told = tuple([(key, places[key][0] - board.now) + places[key][1:] for key in board.told])
        return runs, told, tuple([key for key in self.keys if key not in starts and key not in board.told])

    def waiting(self, stand):
        return sorted([row[0] for row in stand[1]] + list(stand[2]))

    def is_table(self, table):
        """13.5 from its words."""
        for stand, nexts in self.nexts.items():
            if stand not in table or [key for key, _ in table[stand]] != self.waiting(stand):
                return False
            for key, bound in table[stand]:
                if bound < 1 or any([bound <= dict(table.get(other, ())).get(key, 0) for other in nexts.values()]):
                    return False
        return True

    def least_table(self):
        table = {}

        def fill(stand):
            if stand not in table:
                table[stand] = ()
                for other in self.nexts[stand].values():
                    fill(other)
                laters = [dict(table[other]) for other in self.nexts[stand].values()]
                table[stand] = tuple([(key, max([1] + [later[key] + 1 for later in laters if key in later])) for key in self.waiting(stand)])

        for stand in self.nexts:
            fill(stand)
        return table

    def all_puts_off(self):
        """All pairs that `puts_off` can return."""
        found = []
        for lengths, starts in self.starts.items():
            for at, length in enumerate(lengths):
                for less in range(1, length):
                    other = lengths[:at] + (less,) + lengths[at + 1:]
                    if any([self.starts[other][key] > starts[key] for key in starts]):
                        found.append((lengths, other))
        return found


def some_lineup(chance):
    """Any small lineup; mostly one in which the jobs are in one another's way."""
    if chance.random() < 0.7:
        yard = Yard(tuple([Machine("abc"[at], some(core=chance.choice((2, 2, 3)))) for at in range(chance.choice((1, 1, 1, 2)))]))
        asks = [(want((chance.choice((1, 1, len(yard.machines))), ALL, some(core=chance.choice((1, 1, 2))))),) for _ in range(4)]
        lengths = chance.choice(((4, 3, 4, 1), (4, 2, 3, 3), (2, 3, 3, 3), (3, 3, 4, 2)))
        jobs = list(zip(chance.sample(range(20), 4), asks, chance.sample(lengths, 4)))
    else:
        yard = Yard(some_machines(chance, 3), chance.choice((NOTHING, some(lic=2), some(lic=1, seat=1))), period=chance.choice((1, 4)))
        jobs = [(key, fair_ask(chance, yard), chance.choice((1, 2, 3))) for key in chance.sample(range(20), chance.randrange(1, 5))]
    try:
        return Lineup(yard, tuple(jobs), depth=chance.choice((1, 1, 1, 2, 5)), fill=chance.random() < 0.75)
    except Refused:
        return some_lineup(chance)


class Making(Case):
    def test_constants(self):
        self.assertEqual((module.MAX_JOBS, module.MAX_LENGTH, module.MAX_YARD, module.MAX_STANDS, module.MAX_ROWS), (6, 6, 5, 20000, 5000))
        self.assertEqual(module.MAX_STANDS, graph.MOST_STANDS)

    def test_properties(self):
        self.assertEqual((ORDER.yard, ORDER.jobs, ORDER.depth, ORDER.fill, len(ORDER)), (PAIR, JOBS, 1, False, 4))
        self.assertEqual([str(ORDER), str(FIRST), str(LINED)], ["lineup of 4 jobs, depth 1", "lineup of 4 jobs, depth 1, fills", "lineup of 4 jobs, depth 5"])
        self.assertEqual(FIRST.stand, (((1, 0, 0, ((0,),)), (2, 0, 0, ((0,),))), ((3, 4, 0, ((0,),)),), (4,)))
        self.assertRaises(TypeError, iter, ORDER)
        self.assertRaises(TypeError, lambda: 1 in ORDER)
        for name in ("yard", "jobs", "depth", "fill", "stand"):
            with self.assertRaises(AttributeError):
                setattr(ORDER, name, 1)

    def test_equality(self):
        self.assertEqual((ORDER == Lineup(PAIR, JOBS, depth=1), ORDER != Lineup(PAIR, JOBS, depth=1), LINED == Lineup(PAIR, JOBS, depth=5, fill=False)), (True, False, True))
        latest_starts(ORDER)
        self.assertEqual(ORDER, Lineup(PAIR, JOBS, depth=1))
        for value in EVERY + (FIRST, LINED, Lineup(PAIR, JOBS[:3], depth=1), Lineup(PAIR, JOBS[::-1], depth=1), Lineup(Yard(PAIR.machines, period=2), JOBS, depth=1)):
            self.assertIs(ORDER == value, False)
            self.assertIs(ORDER != value, True)

    def test_wrong_yards(self):
        six = tuple([Machine("abcdef"[at], some(core=2)) for at in range(6)])
        for value in all_but(Yard) + [Yard(six), PAIR.with_place(1, (0, 0, ((0,),)), 1, HALF), PAIR.with_shut(0, 3, 5), PAIR.with_window(0, 0, 1)]:
            self.refused(InvalidHouse, Lineup, value, None, depth=0, fill=None)
        self.assertEqual(latest_starts(Lineup(Yard(six[:5]), JOBS)), {1: 0, 2: 0, 3: 0, 4: 0})

    def test_wrong_jobs(self):
        one = (1, HALF, 6)
        for value in EVERY + ((), [one], (one, one), (one, (1, FULL, 3)), (one, (2, HALF, 7)), ((10 ** 6 + 1, HALF, 1),), ((-1, HALF, 1),), ((True, HALF, 1),), ((1, HALF, True),),
                              ((1, HALF, 0),), ((1, (), 1),), ((1, HALF),), ((1, HALF, 1, 1),), ([1, HALF, 1],), tuple([(key, HALF, 1) for key in range(7)])):
            self.refused(InvalidJob, Lineup, PAIR, value, depth=0, fill=None)
        for value in EVERY:
            self.refused(InvalidJob, Lineup, PAIR, (one, value), depth=0)
        self.assertEqual(len(Lineup(PAIR, tuple([(key, HALF, 6) for key in (0, 10 ** 6, 7, 5, 4, 3)]))), 6)

    def test_wrong_depths_and_fillings(self):
        never = ((5, HALF, 1), (4, (want(group(2, core=1)),), 1), (3, (want(group(1, core=3)),), 1))
        for value in no_integers(1, 20):
            self.assertIs(self.refused(InvalidNumber, Lineup, PAIR, never, depth=value, fill=None).given, value)
        for value in all_but(bool) + [0, 1]:
            self.refused(InvalidHouse, Lineup, PAIR, never, fill=value)
        self.assertEqual(self.refused(Refused, Lineup, PAIR, never).reason, ("never", 4))
        self.assertEqual([Lineup(PAIR, JOBS, depth=depth).depth for depth in (1, 20)], [1, 20])


class Against(Case):
    def test_examples(self):
        self.assertEqual([latest_starts(one) for one in (ORDER, FIRST, LINED)], [{1: 0, 2: 0, 3: 4, 4: 8}, {1: 0, 2: 0, 3: 4, 4: 6}, {1: 0, 2: 0, 3: 4, 4: 3}])
        self.assertEqual([starts_by(FIRST, (4, 2, 4, 1)), starts_by(FIRST, (2, 2, 4, 1)), is_puts_off(FIRST, ((4, 2, 4, 1), (2, 2, 4, 1))), puts_off(LINED)],
                         [{1: 0, 2: 0, 3: 4, 4: 2}, {1: 0, 2: 0, 3: 2, 4: 6}, True, None])
        self.assertEqual(FIRST.next_stand(FIRST.stand, (2,)), (((1, 1, 0, ((0,),)), (4, 0, 0, ((0,),))), ((3, 3, 0, ((0,),)),), ()))
        self.assertEqual([is_lengths_to(FIRST, 4, (4, 2, 4, 1)), bound_table(LINED)[LINED.stand]], [False, ((3, 4), (4, 3))])

    def test_against_plain_boards(self):
        chance, found = random.Random(131), [0, 0, 0]
        late = [Lineup(PAIR, tuple([(key, ask, length) for key, (ask, length) in enumerate(zip(asks, lengths))]), depth=1, fill=True) for asks, lengths in LATE]
        for at in range(500):
            lineup = late[at] if at < len(late) else some_lineup(chance)
            full = tuple([length for _, _, length in lineup.jobs])
            # Of the plain ones only some are looked at.
            if at % 20 and puts_off(lineup) is None and latest_starts(lineup) == starts_by(lineup, full):
                continue
            plain = Plain(lineup)
            for lengths, starts in plain.starts.items():
                self.assertEqual(starts_by(lineup, lengths), starts)
            latest = latest_starts(lineup)
            self.assertEqual(latest, plain.latest)
            self.assertEqual(list(latest), sorted(plain.keys))
            table = bound_table(lineup)
            self.assertEqual(table, plain.least_table())
            self.assertEqual(list(table), sorted(table))
            self.assertEqual(dict(table[lineup.stand]), {key: latest[key] for key in plain.waiting(lineup.stand)})
            for stand, nexts in plain.nexts.items():
                for early, other in nexts.items():
                    self.assertEqual(lineup.next_stand(stand, early), other)
            self.judge(lineup, plain, table, chance)
            found[0] += len(plain.all_puts_off()) > 0
            found[1] += latest != plain.starts[full]
            found[2] += len(table) > 20
        self.assertGreater(min(found), 3, found)

    def judge(self, lineup, plain, table, chance):
        for key in plain.keys:
            lengths = lengths_to(lineup, key)
            self.assertEqual(plain.starts[lengths][key], plain.latest[key])
            for value, starts in plain.starts.items():
                self.assertIs(is_lengths_to(lineup, key, value), starts[key] == plain.latest[key])
        pairs, answer = plain.all_puts_off(), puts_off(lineup)
        self.assertIn(answer, pairs if pairs else [None])
        every = sorted(plain.starts)
        for value in pairs[:20] + [(chance.choice(every), chance.choice(every)) for _ in range(20)]:
            self.assertIs(is_puts_off(lineup, value), value in pairs)
        self.assertIs(is_bound_table(lineup, table), True)
        for _ in range(12):
            other = dict(table)
            for stand in chance.sample(sorted(table), min(len(table), chance.choice((1, 1, 3)))):
                other[stand] = tuple([(key, bound + chance.choice((0, 0, 1, 1, -1, 3))) for key, bound in table[stand]])
            self.assertIs(is_bound_table(lineup, other), plain.is_table(other))
        more = {stand: tuple([(key, bound + 5) for key, bound in pairs]) for stand, pairs in table.items()}
        self.assertIs(is_bound_table(lineup, more), True)

    def test_deep_lineups_are_as_told(self):
        """13.4: with enough depth, the lengths themselves reach the latest starts, which are told at tick 0."""
        chance, many = random.Random(132), 0
        for _ in range(80):
            lineup = some_lineup(chance)
            if lineup.depth >= len(lineup):
                told = {key: start for key, start, _, _ in lineup.stand[1]}
                latest = {key: told.get(key, 0) for key, _, _ in lineup.jobs}
                self.assertEqual(latest_starts(lineup), latest)
                self.assertEqual(starts_by(lineup, tuple([length for _, _, length in lineup.jobs])), latest)
                many += 1
        self.assertGreater(many, 8)

    def test_one_machine_in_order(self):
        """13.4: so it is with a depth of 1, without filling, with one machine and one want each."""
        chance = random.Random(133)
        for _ in range(60):
            yard = Yard((Machine("a", some(core=3, mem=2)),), some(lic=2))
            jobs = tuple([(key, (want(group(1, core=chance.randrange(1, 4), mem=chance.choice((1, 2))), lic=chance.choice((1, 2))),), chance.randrange(1, 7)) for key in range(5)])
            lineup = Lineup(yard, jobs, depth=1)
            self.assertEqual(latest_starts(lineup), starts_by(lineup, tuple([length for _, _, length in jobs])))

    def test_a_job_can_begin_later_with_a_shorter_run(self):
        """13.4: even if all starts are told, but never later than told."""
        chance, many = random.Random(134), 0
        for _ in range(400):
            lineup = some_lineup(chance)
            if lineup.depth >= len(lineup) and puts_off(lineup) is not None:
                one, other = [starts_by(lineup, lengths) for lengths in puts_off(lineup)]
                self.assertTrue(any([one[key] < other[key] <= latest_starts(lineup)[key] for key in one]))
                many += 1
        self.assertGreater(many, 0)


class Stands(Case):
    def test_ends(self):
        self.assertEqual(LINED.next_stand(END, ()), END)
        self.assertEqual(bound_table(Lineup(PAIR, ((7, HALF, 1),))), {END: (), (((7, 0, 0, ((0,),)),), (), ()): ()})

    def test_who_can_end_early(self):
        """Those that have then run for less than their lengths; one that has begun just now cannot have ended."""
        lineup = Lineup(PAIR, JOBS, depth=1, fill=True)
        stand = lineup.next_stand(lineup.stand, (1,))
        self.assertEqual(stand, (((2, 1, 0, ((0,),)), (4, 0, 0, ((0,),))), ((3, 2, 0, ((0,),)),), ()))
        for early in ((4,), (1,), (2, 4), (3,), (9,)):
            self.refused(InvalidPaper, lineup.next_stand, stand, early)
        self.assertEqual(lineup.next_stand(stand, ()), (((2, 2, 0, ((0,),)),), ((3, 1, 0, ((0,),)),), ()))
        self.refused(InvalidPaper, lineup.next_stand, lineup.next_stand(stand, ()), (2,))

    def test_errors(self):
        for value in EVERY + ((FIRST.stand[0], FIRST.stand[1], [4]), (FIRST.stand[0], FIRST.stand[1], ()), LINED.stand, FIRST.stand + ((),), list(FIRST.stand),
                              (((1, False, 0, ((0,),)), (2, 0, 0, ((0,),))),) + FIRST.stand[1:], (((True, 0, 0, ((0,),)), (2, 0, 0, ((0,),))),) + FIRST.stand[1:]):
            self.refused(InvalidPaper, FIRST.next_stand, value, ())
            self.refused(InvalidPaper, FIRST.next_stand, value, None)
        for value in EVERY + ((2, 1), (1, 1), (3,), (True,), [1], ("1",), (None,), ((1,),)):
            if value not in ((), (1,)):
                self.refused(InvalidPaper, FIRST.next_stand, FIRST.stand, value)
        self.assertEqual(FIRST.next_stand(FIRST.stand, (1, 2))[0], ((3, 0, 0, ((0,),)),))

    def test_as_many_as_there_can_be(self):
        """The most stands are set lower here: so few short jobs do not reach them soon."""
        many = len(bound_table(FIRST))
        self.addCleanup(setattr, graph, "MOST_STANDS", 20000)
        graph.MOST_STANDS = many
        self.assertEqual(latest_starts(Lineup(PAIR, JOBS, depth=1, fill=True)), latest_starts(FIRST))
        graph.MOST_STANDS = many - 1
        calls = ((latest_starts, ()), (lengths_to, (4,)), (is_lengths_to, (4, None)), (bound_table, ()), (is_bound_table, (None,)))
        for call, args in calls:
            self.assertEqual(self.refused(TooMany, call, Lineup(PAIR, JOBS, depth=1, fill=True), *args).most, graph.MOST_STANDS)
        lineup = Lineup(PAIR, JOBS, depth=1, fill=True)
        for _ in range(2):
            self.assertEqual(self.refused(TooMany, lineup.next_stand, None, None).most, graph.MOST_STANDS)
        self.assertEqual((starts_by(lineup, (4, 2, 4, 1)), puts_off(lineup) is None, lineup.stand), ({1: 0, 2: 0, 3: 4, 4: 2}, False, FIRST.stand))


class Papers(Case):
    def test_errors_in_order(self):
        for value in all_but(Lineup):
            for call, args in ((starts_by, (None,)), (latest_starts, ()), (lengths_to, (None,)), (is_lengths_to, (None, None)), (bound_table, ()),
                               (is_bound_table, (None,)), (puts_off, ()), (is_puts_off, (None,))):
                self.refused(InvalidHouse, call, value, *args)
        for value in EVERY + ((4, 3, 4), (4, 3, 4, 1, 1), (4, 3, 4, 2), (4, 3, 0, 1), (True, 3, 4, 1), [4, 3, 4, 1], (4, 3, "4", 1)):
            self.refused(InvalidPaper, starts_by, FIRST, value)
            self.assertIs(is_lengths_to(FIRST, 4, value), False)
            self.assertIs(is_puts_off(FIRST, (value, (1, 1, 1, 1))), False)
            self.assertIs(is_puts_off(FIRST, ((1, 2, 1, 1), value)), False)
            self.assertIs(is_puts_off(FIRST, value), False)
        for value in EVERY + (5, "4"):
            if value != 1 or isinstance(value, bool):
                self.assertIs(self.refused(UnknownName, lengths_to, FIRST, value).wanted, value)
                self.assertIs(self.refused(UnknownName, is_lengths_to, FIRST, value, None).wanted, value)

    def test_pairs(self):
        one, other = (4, 2, 4, 1), (2, 2, 4, 1)
        self.assertIs(is_puts_off(FIRST, (one, other)), True)
        for value in ((other, one), (one, one), (one,), (one, other, other), [one, other], ((4, 3, 4, 1), other), (one, (2, 2, 3, 1)), (one, (3, 2, 4, 1))):
            self.assertIs(is_puts_off(FIRST, value), False, value)

    def test_tables(self):
        table = bound_table(FIRST)
        self.assertIs(is_bound_table(FIRST, {**table, END[:2]: 7, 5: (), "x": None}), True)
        self.assertIs(is_bound_table(FIRST, dict(reversed(list(table.items())))), True)
        for value in EVERY + (tuple(table.items()), list(table.items()), bound_table(ORDER), bound_table(LINED)):
            self.assertIs(is_bound_table(FIRST, value), False)
        for stand in table:
            self.assertIs(is_bound_table(FIRST, {one: table[one] for one in table if one != stand}), False)
            for value in EVERY + (list(table[stand]), table[stand] + ((9, 1),), table[stand][1:], table[stand][::-1], tuple([(key, bound - 1) for key, bound in table[stand]]),
                                  tuple([(key, bound, 1) for key, bound in table[stand]]), tuple([[key, bound] for key, bound in table[stand]]),
                                  tuple([(key, True) for key, bound in table[stand]]), tuple([(key, str(bound)) for key, bound in table[stand]])):
                if value != table[stand]:
                    self.assertIs(is_bound_table(FIRST, {**table, stand: value}), False, (stand, value))
        for bound, right in ((10 ** 59, True), (10 ** 60, False)):
            self.assertIs(is_bound_table(FIRST, {**table, FIRST.stand: tuple([(key, bound) for key, _ in table[FIRST.stand]])}), right)

    def test_true_is_not_one(self):
        """A key that is equal to a stand but has True for a 1 is no such stand."""
        lineup = Lineup(PAIR, ((1, HALF, 2),))
        table = bound_table(lineup)
        self.assertIs(is_bound_table(lineup, table), True)
        odd = {(((True, 0, 0, ((0,),)),), (), ()): (), (((1, 1, 0, ((0,),)),), (), ()): (), END: ()}
        self.assertEqual(odd, table)
        self.assertIs(is_bound_table(lineup, odd), False)
        first = Lineup(PAIR, ((1, FULL, 1), (2, FULL, 1)))
        table = bound_table(first)
        self.assertEqual(table[first.stand], ((2, 1),))
        self.assertIs(is_bound_table(first, {**table, first.stand: ((2, True),)}), False)

    def test_five_thousand_rows_and_one_more(self):
        jobs = tuple([(key, FULL, length) for key, length in enumerate((5, 5, 5, 5, 4, 2))])
        begin = time.perf_counter()
        self.assertEqual(puts_off(Lineup(PAIR, jobs, depth=1)), None)
        self.assertLess(time.perf_counter() - begin, 3.0)
        more = Lineup(PAIR, tuple([(key, FULL, length) for key, length in enumerate((6, 6, 5, 4, 4, 2))]), depth=1)
        self.assertEqual(self.refused(TooMany, puts_off, more).most, 5000)
        self.assertIs(is_puts_off(more, ((6, 6, 5, 4, 4, 2), (5, 6, 5, 4, 4, 2))), False)

    def test_the_greatest_lineups(self):
        """Where a test looks at the time, it allows several times what it takes."""
        yard = Yard(tuple([Machine("abcd"[at], some(core=2)) for at in range(4)]))
        jobs = tuple([(key, (want(group(1, core=2)),), 6) for key in range(6)])
        begin = time.perf_counter()
        self.assertEqual(latest_starts(Lineup(yard, jobs, depth=2, fill=True)), {0: 0, 1: 0, 2: 0, 3: 0, 4: 6, 5: 6})
        self.assertLess(time.perf_counter() - begin, 2.0)
