"""The main statements 0.12 and 0.18: what is kept, and what is not true. For each of the latter an example is looked for."""

import random

from toldstarts.errors import Refused
from toldstarts.house.machines import Machine
from toldstarts.plan.places import Yard, earliest_place
from toldstarts.plan.told import Board, starts_of
from toldstarts.rank.scores import Weights
from toldstarts.sure.lineups import Lineup, is_puts_off, puts_off, starts_by
from toldstarts.work.house import House
from helper import Case, some
from test_houses import BIG_JOB, SETTING, SMALL
from yards import ALL, group, want


def some_row(chance, machines, many=4):
    """A row of jobs, each of which can start on so many machines with two cores."""
    return tuple([(key, (want(group(chance.randrange(1, machines + 1), core=chance.choice((1, 1, 2)))),), chance.randrange(1, 6)) for key in range(many)])


def yard_of(machines):
    return Yard(tuple([Machine("abcd"[at], some(core=2)) for at in range(machines)]))


class NotTrue(Case):
    def first(self, find, most=4000):
        """The first example that is found."""
        chance = random.Random(18)
        for _ in range(most):
            found = find(chance)
            if found is not None:
                return found
        self.fail("no example was found")

    def later(self, one, other):
        """The keys of the jobs that start later in the second dict."""
        return [key for key in other if one[key] < other[key]]

    def test_more_machines_put_no_job_off(self):
        for fill in (False, True):
            def find(chance):
                row, depth = some_row(chance, 2), chance.choice((1, 4))
                one, other = [starts_of(yard_of(many), row, depth=depth, fill=fill) for many in (2, 3)]
                return self.later(one, other) or None

            self.assertTrue(self.first(find))

    def test_a_shorter_run_puts_no_job_off(self):
        for fill in (False, True):
            def find(chance):
                lineup = Lineup(yard_of(1), tuple([(key, ask, min(length, 4)) for key, ask, length in some_row(chance, 1)]), depth=chance.choice((1, 2, 5)), fill=fill)
                pair = puts_off(lineup)
                return None if pair is None else (lineup, pair)

            lineup, pair = self.first(find)
            self.assertIs(is_puts_off(lineup, pair), True)
            self.assertTrue(self.later(*[starts_by(lineup, lengths) for lengths in pair]))

    def test_a_job_that_leaves_puts_no_job_off(self):
        for fill in (False, True):
            def find(chance):
                row, depth = some_row(chance, 2, 5), chance.choice((1, 5))
                gone = chance.randrange(5)
                less = starts_of(yard_of(2), row[:gone] + row[gone + 1:], depth=depth, fill=fill)
                return self.later(starts_of(yard_of(2), row, depth=depth, fill=fill), less) or None

            self.assertTrue(self.first(find))

    def test_the_plan_behind_an_early_end_is_the_plan_made_anew(self):
        def find(chance):
            row = some_row(chance, 2, 5)
            board = Board(yard_of(2))
            board.settle(0, row)
            if not board.runs:
                return None
            over = chance.choice(board.runs)
            starts = {key: 0 for key in board.runs}
            board.end(over)
            board.settle(0, ())
            starts.update(board.starts)
            starts.update({key: 0 for key in board.runs})
            anew = starts_of(yard_of(2), tuple([job for job in row if job[0] != over]))
            return None if all([starts[key] == anew[key] for key in anew]) else True

        self.assertTrue(self.first(find))

    def test_drawing_together_in_another_order_ends_alike(self):
        """The same told places, but another told order."""
        def find(chance):
            row = some_row(chance, 2, 5)
            boards = []
            for told in (row[1:], row[:0:-1]):
                board = Board(yard_of(2))
                board.settle(0, row[:1])
                board.settle(0, told)
                boards.append(board)
            if boards[0].starts != boards[1].starts or 0 not in boards[0].runs or 0 not in boards[1].runs:
                return None
            for board in boards:
                board.end(0)
                board.settle(0, ())
            return None if boards[0].starts == boards[1].starts and boards[0].runs == boards[1].runs else True

        self.assertTrue(self.first(find, 20000))

    def test_a_job_that_fits_now_starts_now(self):
        board = Board(yard_of(1), depth=1)
        both, one = (want(group(1, core=2)),), (want(group(1, core=1)),)
        board.settle(0, ((1, one, 5), (2, both, 5), (3, one, 5)))
        self.assertEqual((board.runs, earliest_place(board.yard, one, 5, 0)), ((1,), (0, 0, ((0,),))))

    def test_the_job_that_is_told_first_starts_first(self):
        board = Board(yard_of(1))
        board.settle(0, ((1, (want(group(1, core=1)),), 5), (2, (want(group(1, core=2)),), 5), (3, (want(group(1, core=1)),), 5)))
        self.assertEqual((board.runs, board.told, board.starts), ((1, 3), (2,), {2: 5}))

    def test_the_job_with_the_higher_score_starts_first(self):
        house = House(SETTING[0][:1], *SETTING[1:4], Weights(grade=1))
        house.do(("come", SMALL))
        house.do(("row", BIG_JOB.changed(grade=9), (1,), None))
        house.do(("come", SMALL))
        self.assertEqual((house.runs, house.told_starts), ((1, 3), {2: 5}))

    def test_the_earliest_place_has_the_fewest_racks(self):
        machines = tuple([Machine("abc"[at], some(core=2), rack="xyy"[at]) for at in range(3)])
        two = (want(group(2, core=2)),)
        yard = Yard(machines).with_place(1, (0, 0, ((1,),)), 5, (want(group(1, core=2)),))
        self.assertEqual([earliest_place(yard, two, 5, since) for since in (0, 5)], [(0, 0, ((0, 2),)), (5, 0, ((1, 2),))])


class Kept(Case):
    def test_told_starts_are_kept_behind_others(self):
        """0.12: jobs that come behind a told one, end early or leave never put it off."""
        chance, many = random.Random(12), 0
        for _ in range(60):
            house = House(tuple([Machine("abc"[at], some(core=2)) for at in range(chance.randrange(1, 4))]), *SETTING[1:5], chance.randrange(1, 6), chance.random() < 0.5)
            latest = {}
            for _ in range(30):
                dice, number = chance.random(), chance.randrange(1, len(house) + 2)
                deed = ("come", SMALL.changed(groups=((chance.randrange(1, len(house.setting[0]) + 1), ALL, some(core=chance.randrange(1, 3))),), limit=chance.randrange(1, 9)))
                if dice < 0.3:
                    deed = ("wait", chance.randrange(1, 6))
                elif dice < 0.5 and number in house:
                    deed = ("end", number, "well") if house.stands(number) == "runs" else ("leave", number)
                try:
                    events = house.do(deed)
                except Refused:
                    continue
                self.assertNotIn("put off", [event[1] for event in events])
                for number, start in house.told_starts.items():
                    self.assertLessEqual(start, latest.get(number, start))
                    self.assertIsNone(house.earlier(number))
                    latest[number] = start
                    many += 1
        self.assertGreater(many, 1000)
