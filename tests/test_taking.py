"""Points 14.1 to 14.6: giving way."""

import itertools
import random
import time

from toldstarts.errors import InvalidHouse, InvalidJob, InvalidNumber, InvalidTick, TooMany, UnknownName
from toldstarts.house.machines import Machine
from toldstarts.plan import taking as module
from toldstarts.plan.places import Yard, earliest_place, is_place_bars, place_bars
from toldstarts.plan.taking import candidates, ending_sets, is_ending_sets, is_taking_paper, least_taken, taking_cost, taking_paper
from helper import Case, some
from odd import EVERY, NO_ASKS, NO_TICKS, all_but, no_integers
from yards import all_places_at, fair_ask, group, is_plain_bars, some_ask, some_yard, want

CORES = some(core=2)
BOTH, ONE, FOUR = (want(group(2, core=2)),), (want(group(1, core=2)),), (want(group(1, core=4)),)
YARD = Yard((Machine("a", CORES * 2), Machine("b", CORES)), period=10).with_place(1, (0, 0, ((0,),)), 8, ONE).with_place(2, (1, 0, ((1,),)), 5, ONE)
RUNS = ((1, 0), (2, 1))
BARS = ((3, 6, (("groups", (0,), ((1, 0, 3, 5, "core"),)),)),)


def without(yard, keys):
    for key in keys:
        yard = yard.without_place(key)
    return yard


class Case14:
    """A small yard, a tick, its runs, and all sets of them that let an ask start."""

    def __init__(self, chance, most=7):
        yard = some_yard(chance, 4)
        for _ in range(12):
            ask, length = fair_ask(chance, yard), chance.randrange(1, 8)
            place = earliest_place(yard, ask, length, chance.randrange(4))
            key = chance.randrange(50)
            if place is not None and place[0] < 6 and key not in yard:
                yard = yard.with_place(key, place, length, ask)
        self.tick = chance.randrange(1, 7)
        keys = [key for key, (place, length, _) in yard.places.items() if place[0] <= self.tick < place[0] + length]
        self.yard, self.keys = yard, sorted(chance.sample(keys, min(len(keys), most)))
        self.runs = tuple([(key, chance.choice((0, 0, 1, 2, 3))) for key in self.keys])
        self.ask, self.length, self.grade = fair_ask(chance, yard), chance.randrange(1, 7), chance.randrange(5)
        self.args = (yard, self.ask, self.length, self.tick, self.runs)
        self.known = {}

    def cost(self, key):
        start, _, choice = self.yard.places[key][0]
        return (self.tick - start + 1) * len([at for row in choice for at in row])

    def lets(self, keys):
        if keys not in self.known:
            self.known[keys] = bool(all_places_at(without(self.yard, keys), self.ask, self.length, self.tick))
        return self.known[keys]

    def candidates(self):
        rows = sorted([(grade, self.cost(key), key) for key, grade in self.runs if grade < self.grade])[:10]
        return tuple(sorted([key for _, _, key in rows]))

    def ordered(self):
        """All sets of candidates in the order of 14.3."""
        keys = self.candidates()
        sets = [some_keys for size in range(len(keys) + 1) for some_keys in itertools.combinations(keys, size)]
        return [some_keys for _, _, some_keys in sorted([(sum([self.cost(key) for key in one]), len(one), one) for one in sets])]

    def least(self):
        return next((keys for keys in self.ordered() if self.lets(keys)), None)

    def ahead(self):
        """The sets that stand ahead of the least one, or all."""
        return list(itertools.takewhile(lambda keys: keys != self.least(), self.ordered()))

    def endings(self):
        sets = [keys for size in range(len(self.keys) + 1) for keys in itertools.combinations(self.keys, size) if self.lets(keys)]
        return tuple([keys for keys in sets if not any([set(other) < set(keys) for other in sets])])


class Taking(Case):
    def test_constants(self):
        self.assertEqual((module.MAX_CANDIDATES, module.MAX_RUNS), (10, 200))

    def test_examples(self):
        self.assertEqual([taking_cost(YARD, 3, 1), taking_cost(YARD, 3, 2), candidates(YARD, 3, RUNS, 1)], [4, 3, (1,)])
        self.assertEqual([least_taken(YARD, BOTH, 5, 3, RUNS, 2), least_taken(YARD, BOTH, 5, 3, RUNS, 1), least_taken(YARD, FOUR, 5, 3, RUNS, 2)], [(2,), None, (1,)])
        self.assertEqual([is_taking_paper(YARD, BOTH, 5, 3, RUNS, 1, (None, (((1,), BARS),))), is_taking_paper(YARD, BOTH, 5, 3, RUNS, 2, ((2,), (((), BARS),))),
                          is_taking_paper(YARD, BOTH, 5, 3, RUNS, 2, ((1, 2), (((1,), BARS),)))], [True, True, False])
        self.assertEqual([ending_sets(YARD, ask, 5, 3, RUNS) for ask in (BOTH, FOUR, ONE)], [((2,),), ((1,),), ((),)])

    def test_costs(self):
        yard = Yard((Machine("a", CORES * 2), Machine("b", CORES * 2))).with_place(5, (2, 0, ((0, 1),)), 9, BOTH).with_place(9, (2, 0, ((1,),)), 1, ONE)
        self.assertEqual([taking_cost(yard, tick, 5) for tick in (2, 3, 10)], [2, 4, 18])
        self.assertEqual(taking_cost(yard, 2, 9), 1)
        for tick, key in ((1, 5), (11, 5), (3, 9), (3, 7)):
            self.assertEqual(self.refused(UnknownName, taking_cost, yard, tick, key).wanted, key)
        long = Yard((Machine("a", CORES),)).with_place(10 ** 6, (0, 0, ((0,),)), 10 ** 6, ONE)
        self.assertEqual(taking_cost(long, 999999, 10 ** 6), 10 ** 6)

    def test_against_a_plain_search(self):
        chance, found = random.Random(141), {}
        for _ in range(500):
            case = Case14(chance)
            for key in case.keys:
                self.assertEqual(taking_cost(case.yard, case.tick, key), case.cost(key))
            self.assertEqual(candidates(case.yard, case.tick, case.runs, case.grade), case.candidates())
            least = least_taken(*case.args, case.grade)
            self.assertEqual(least, case.least())
            endings = ending_sets(*case.args)
            self.assertEqual(endings, case.endings())
            self.assertIs(is_ending_sets(*case.args, endings), True)
            for other in (endings[1:], endings[::-1], endings + ((99,),), endings + endings[-1:], list(endings), tuple([list(one) for one in endings])):
                self.assertIs(is_ending_sets(*case.args, other), other == endings)
            found[least if least is None else len(least)] = found.get(least if least is None else len(least), 0) + 1
            self.check_14_6(case, least, endings)
        self.assertGreater(min([found.get(many, 0) for many in (None, 0, 1, 2)]), 5, found)

    def check_14_6(self, case, least, endings):
        """14.6: the place can be put in; a greater grade does not cost more; ending sets lie in all that let it start."""
        if least is not None:
            rest = without(case.yard, least)
            place = earliest_place(rest, case.ask, case.length, case.tick)
            self.assertEqual(place[0], case.tick)
            self.assertEqual(rest.with_place(99, place, case.length, case.ask).without_place(99), rest)
            more = least_taken(*case.args, case.grade + 1)
            self.assertLessEqual(sum([case.cost(key) for key in more]), sum([case.cost(key) for key in least]))
            runs = tuple([row for row in case.runs if row[1] < case.grade])
            costs = [sum([case.cost(key) for key in one]) for one in ending_sets(*case.args[:4], runs)]
            self.assertEqual(min(costs), sum([case.cost(key) for key in least]))
        for keys, lets in list(case.known.items()):
            if lets and set(keys) <= set(case.keys):
                self.assertTrue(any([set(one) <= set(keys) for one in endings]))

    def test_papers_against_a_plain_search(self):
        chance, found = random.Random(142), {True: 0, False: 0}
        for _ in range(250):
            case = Case14(chance, 6)
            least, ahead = case.least(), case.ahead()
            paper = taking_paper(*case.args, case.grade)
            self.assertEqual(paper[0], least)
            self.assertIs(is_taking_paper(*case.args, case.grade, paper), True)
            self.assertEqual(list(paper[1]), sorted(paper[1], key=lambda row: row[0]))
            for keys, bars in paper[1]:
                self.assertTrue(bars and is_plain_bars(without(case.yard, keys), case.ask, case.length, case.tick, bars))
            for keys in ahead:
                self.assertTrue(any([set(keys) <= set(other) for other, _ in paper[1]]))
            # Right papers of other makers: a row for each set ahead, and the same without some rows.
            rows = [(keys, place_bars(without(case.yard, keys), case.ask, case.length, case.tick)) for keys in sorted(ahead)]
            for value in [rows] + [rows[:at] + rows[at + 1:] for at in range(len(rows))] + [[row for row in rows if chance.random() < 0.7] for _ in range(5)]:
                right = all([any([set(keys) <= set(other) for other, _ in value]) for keys in ahead])
                found[right] += 1
                self.assertIs(is_taking_paper(*case.args, case.grade, (least, tuple(value))), right)
            for keys in case.ordered():
                if keys != least:
                    self.assertIs(is_taking_paper(*case.args, case.grade, (keys, tuple(rows))), False)
        self.assertGreater(min(found.values()), 50)

    def test_values_near_the_right_ones(self):
        row = ((), BARS)
        for value, right in ((((2,), (row,)), True), (((2,), ()), False), (((2,), (((1,), BARS),)), True), (((2,), (row, ((1,), BARS))), True), (((2,), (((1,), BARS), row)), False),
                             (((2,), (row, row)), False), (((2,), (((1,), ()),)), False), (((2,), (((2,), BARS),)), False), (((2,), (((1, 2), BARS),)), False),
                             (((2,), (((1,), ((3, 5) + BARS[0][2:],)),)), False), (((2,), (((1,), ((4, 6) + BARS[0][2:],)),)), False), (((2,), (((1,), list(BARS)),)), False),
                             (((2,), ([(1,), BARS],)), False), (((2,), [((1,), BARS)]), False), ([(2,), (row,)], False), (((2,), (row,), 1), False), (((2,),), False),
                             (([2], (row,)), False), (((2, 2), (row,)), False), (((3,), (row,)), False), (((2.0,), (row,)), False), ((None, (row,)), False), (((), (row,)), False),
                             (((1,), (row,)), False), (((1, 2), (((1,), BARS),)), False), (((2,), (((1,), BARS, 1),)), False), (((2,), (((7,), BARS),)), False),
                             (((2,), (((True,), BARS),)), False), (((2,), ((1, BARS),)), False)):
            self.assertIs(is_taking_paper(YARD, BOTH, 5, 3, RUNS, 2, value), right, value)
        for value in EVERY:
            self.assertIs(is_taking_paper(YARD, BOTH, 5, 3, RUNS, 2, value), False)
            self.assertIs(is_taking_paper(YARD, BOTH, 5, 3, RUNS, 2, (value, (row,))), False)
            self.assertIs(is_taking_paper(YARD, BOTH, 5, 3, RUNS, 2, ((2,), value)), False)
            self.assertIs(is_taking_paper(YARD, BOTH, 5, 3, RUNS, 2, ((2,), (value,))), False)
            if value != ():
                self.assertIs(is_taking_paper(YARD, BOTH, 5, 3, RUNS, 2, ((2,), ((value, BARS),))), value == (1,))
            self.assertIs(is_taking_paper(YARD, BOTH, 5, 3, RUNS, 2, ((2,), (((1,), value),))), False)
            self.assertIs(is_ending_sets(YARD, BOTH, 5, 3, RUNS, value), False)
        for value in ([(2,)], ([2],), ((2,), ()), ((), (2,)), ((2,), (2,)), ((1,),), ((1, 2),), (2,)):
            self.assertIs(is_ending_sets(YARD, BOTH, 5, 3, RUNS, value), False)
        self.assertIs(is_ending_sets(YARD, BOTH, 5, 3, RUNS, ((2,),)), True)
        self.assertIs(is_ending_sets(YARD, FOUR, 5, 3, RUNS, ((True,),)), False)
        free = least_taken(YARD, ONE, 5, 3, RUNS, 0)
        self.assertEqual((free, taking_paper(YARD, ONE, 5, 3, RUNS, 0), is_taking_paper(YARD, ONE, 5, 3, RUNS, 0, ((), ()))), ((), ((), ()), True))
        self.assertIs(is_taking_paper(YARD, ONE, 5, 3, RUNS, 2, ((1,), ())), False)

    def test_told_jobs_stay(self):
        """All other places stay, also of told jobs, and of runs that are not named."""
        yard = YARD.with_place(3, (8, 0, ((0,),)), 5, FOUR)
        self.assertEqual([least_taken(yard, FOUR, length, 3, RUNS, 2) for length in (5, 6)], [(1,), None])
        self.assertEqual([ending_sets(yard, FOUR, length, 3, RUNS) for length in (5, 6)], [((1,),), ()])
        self.assertEqual([least_taken(YARD, BOTH, 5, 3, RUNS[:1], 2), ending_sets(YARD, BOTH, 5, 3, RUNS[:1])], [None, ()])

    def test_ten_candidates_and_one_more(self):
        yard = Yard((Machine("a", some(core=11)),))
        for key in range(11):
            yard = yard.with_place(key, (key % 3, 0, ((0,),)), 30, (want(group(1, core=1)),))
        runs = tuple([(key, (5, 5, 0)[key % 3]) for key in range(11)])
        # By grade, then by cost, then by key: the costs at tick 4 are 5, 4 and 3.
        self.assertEqual(candidates(yard, 4, runs, 6), (0, 1, 2, 3, 4, 5, 6, 7, 8, 10))
        self.assertEqual([candidates(yard, 4, runs, grade) for grade in (5, 0, 1)], [(2, 5, 8), (), (2, 5, 8)])
        self.assertEqual(candidates(yard, 4, runs[:10], 6), tuple(range(10)))
        for many, least in ((10, (0, 1, 2, 3, 4, 5, 6, 7, 8, 10)), (11, None)):
            ask = (want(group(1, core=many)),)
            self.assertEqual(least_taken(yard, ask, 3, 4, runs, 6), least)
            paper = taking_paper(yard, ask, 3, 4, runs, 6)
            self.assertEqual((paper[0], is_taking_paper(yard, ask, 3, 4, runs, 6, paper)), (least, True))
        self.assertEqual(least_taken(yard, (want(group(1, core=4)),), 3, 4, runs, 6), (1, 2, 5, 8))
        ask = (want(group(1, core=9)),)
        self.assertEqual(len(ending_sets(yard, ask, 3, 4, runs[:10])), 10)
        for call in (ending_sets, lambda *args: is_ending_sets(*args, ())):
            self.assertEqual(self.refused(TooMany, call, yard, ask, 3, 4, runs).most, 10)

    def test_two_hundred_runs_and_one_more(self):
        yard = Yard((Machine("a", some(core=200)),))
        for key in range(200):
            yard = yard.with_place(key, (0, 0, ((0,),)), 5, (want(group(1, core=1)),))
        runs = tuple([(key, 100) for key in range(200)])
        self.assertEqual((candidates(yard, 4, runs, 100), least_taken(yard, ONE, 5, 4, runs[:199] + ((199, 0),), 100)), ((), None))
        self.assertEqual(least_taken(yard, ONE, 5, 4, runs[:198] + ((198, 0), (199, 0)), 100), (198, 199))
        self.refused(InvalidJob, candidates, yard, 4, runs + ((200, 0),), 5)
        begin = time.perf_counter()
        zeros = tuple([(key, key % 2) for key in range(200)])
        for ask in (ONE, (want(group(1, core=5)),), (want(group(1, core=11)),)):
            paper = taking_paper(yard, ask, 5, 4, zeros, 2)
            self.assertIs(is_taking_paper(yard, ask, 5, 4, zeros, 2, paper), True)
        self.assertLess(time.perf_counter() - begin, 3.0)

    def test_too_many_ticks(self):
        """Only bars look at ticks."""
        always = Yard((Machine("a", CORES), Machine("b", CORES)), period=1).with_window(0, 0, 1).with_shut(1, 30000, 30001).with_place(1, (0, 0, ((1,),)), 5, ONE)
        self.assertEqual([least_taken(always, BOTH, 5, 0, ((1, 0),), 1), least_taken(always, ONE, 5, 0, ((1, 0),), 1), ending_sets(always, ONE, 5, 0, ((1, 0),))], [None, (1,), ((1,),)])
        for ask in (BOTH, ONE):
            self.assertEqual(self.refused(TooMany, taking_paper, always, ask, 5, 0, ((1, 0),), 1).most, 20000)
        self.assertEqual(taking_paper(always.without_place(1), ONE, 5, 0, (), 1), ((), ()))
        self.assertIs(is_taking_paper(always, ONE, 5, 0, ((1, 0),), 1, ((1,), ())), False)

    def test_errors_in_order(self):
        calls = (least_taken, taking_paper, lambda *args: is_taking_paper(*args, None))
        endings = (ending_sets, lambda *args: is_ending_sets(*args, None))
        for value in all_but(Yard):
            for call in calls:
                self.refused(InvalidHouse, call, value, None, None, None, None, None)
            for call in endings:
                self.refused(InvalidHouse, call, value, None, None, None, None)
            self.refused(InvalidHouse, taking_cost, value, None, None)
            self.refused(InvalidHouse, candidates, value, None, None, None)
        for value in NO_ASKS:
            for call in calls:
                self.refused(InvalidJob, call, YARD, value, None, None, None, None)
            for call in endings:
                self.refused(InvalidJob, call, YARD, value, None, None, None)
        for value in no_integers(1, 10 ** 6):
            for call in calls:
                self.assertIs(self.refused(InvalidNumber, call, YARD, BOTH, value, None, None, None).given, value)
            for call in endings:
                self.assertIs(self.refused(InvalidNumber, call, YARD, BOTH, value, None, None).given, value)
        for value in NO_TICKS:
            for call in calls:
                self.refused(InvalidTick, call, YARD, BOTH, 5, value, None, None)
            for call in endings:
                self.refused(InvalidTick, call, YARD, BOTH, 5, value, None)
            self.refused(InvalidTick, taking_cost, YARD, value, None)
            self.refused(InvalidTick, candidates, YARD, value, None, None)
        wrong = [value for value in EVERY if value != ()] + [list(RUNS), RUNS[::-1], RUNS + RUNS[-1:], ((1, 0), (1, 1)), ((1,),), ((1, 0, 0),), ((1, -1),), ((1, 101),), ((1, None),),
                                                             ((1, True),), ((True, 0),), ((3, 0),), ((-1, 0),), ((10 ** 6 + 1, 0),), ([1, 0],), (1, 0), (("1", 0),)]
        for value in wrong:
            for call in calls:
                self.refused(InvalidJob, call, YARD, BOTH, 5, 3, value, None)
            for call in endings:
                self.refused(InvalidJob, call, YARD, BOTH, 5, 3, value)
            self.refused(InvalidJob, candidates, YARD, 3, value, None)
        for tick in (0, 6):
            self.refused(InvalidJob, candidates, YARD, tick, RUNS, 5)
        for value in no_integers(0, 100):
            for call in calls:
                self.assertIs(self.refused(InvalidNumber, call, YARD, BOTH, 5, 3, RUNS, value).given, value)
            self.assertIs(self.refused(InvalidNumber, candidates, YARD, 3, RUNS, value).given, value)
        for value in EVERY + (3,):
            if isinstance(value, bool) or value not in (1, 2):
                self.assertIs(self.refused(UnknownName, taking_cost, YARD, 3, value).wanted, value)

    def test_grades(self):
        runs = ((1, 100), (2, 0))
        self.assertEqual([candidates(YARD, 3, runs, grade) for grade in (0, 1, 100)], [(), (2,), (2,)])
