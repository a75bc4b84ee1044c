"""Point 7.6: jobs that wait for one another."""

import itertools
import random

from toldstarts.errors import InvalidJob, UnknownName
from toldstarts.wait import stuck as module
from toldstarts.wait.fates import STATES
from toldstarts.wait.formulas import is_after_formula, jobs_named
from toldstarts.wait.stuck import is_stuck_set, stuck_set
from helper import Case, ODD
from test_after import SEVEN, nested, outcomes, some_formula, truth

RING = {1: ("over", 2), 2: ("over", 3), 3: ("well", 1)}


def is_stuck(wishes, known, numbers):
    """7.6 from its words."""
    states = {**known, **{number: "waiting" for number in wishes}}
    for number in numbers:
        if wishes[number] is None:
            return False
        if any([truth(wishes[number], row) for row in outcomes(jobs_named(wishes[number]), states, numbers)]):
            return False
    return True


def all_stuck_sets(wishes, known):
    return [numbers for size in range(len(wishes) + 1) for numbers in itertools.combinations(sorted(wishes), size)
            if is_stuck(wishes, known, numbers)]


def some_case(chance):
    waiting = chance.sample((1, 2, 3, 4, 5, 6), chance.randrange(1, 6))
    others = [job for job in (1, 2, 3, 4, 5, 6, 7) if job not in waiting]
    wishes = {}
    for number in waiting:
        f = some_formula(chance, chance.choice((1, 2, 3)), waiting + waiting + others, ("over", "well", "left", "begun", "ill"))
        wishes[number] = f if is_after_formula(f) and chance.random() < 0.9 else None
    return wishes, {job: chance.choice(STATES) for job in others}


class Stuck(Case):
    def test_constant(self):
        self.assertEqual(module.MAX_WAITING, 60)

    def test_examples(self):
        self.assertEqual(stuck_set({3: ("over", 4), 4: ("or", (("over", 3), ("well", 5))), 5: None, 6: ("left", 6)}, {}), (6,))
        self.assertEqual(stuck_set(RING, {}), (1, 2, 3))
        self.assertEqual(stuck_set({**RING, 4: ("left", 1), 5: ("or", (("begun", 4), ("over", 6))), 6: None}, {}), (1, 2, 3, 4))
        self.assertEqual(stuck_set({**RING, 3: None}, {}), ())
        self.assertEqual(stuck_set({1: ("well", 2)}, {2: "begun"}), ())
        self.assertEqual(stuck_set({1: ("well", 2)}, {2: "ill"}), (1,))
        self.assertEqual(stuck_set({1: ("left", 2)}, {2: "begun"}), (1,))
        self.assertEqual(stuck_set({1: ("and", (("well", 2), ("ill", 2)))}, {2: "waiting"}), (1,))
        self.assertEqual(stuck_set({}, {}), ())

    def test_what_others_do_has_no_effect_on_a_stuck_set(self):
        self.assertIs(is_stuck_set(RING, {}, (1, 2, 3)), True)
        self.assertIs(is_stuck_set(RING, {}, (1, 2)), False)
        self.assertIs(is_stuck_set({1: ("left", 1), 2: ("left", 2)}, {}, (2,)), True)
        self.assertIs(is_stuck_set({1: ("left", 1), 2: None}, {3: "begun"}, (1,)), True)

    def test_against_all_sets(self):
        chance = random.Random(76)
        counts = {}
        for _ in range(600):
            wishes, known = some_case(chance)
            every = all_stuck_sets(wishes, known)
            greatest = stuck_set(wishes, known)
            self.assertIn(greatest, every)
            self.assertEqual(set(greatest), set([number for numbers in every for number in numbers]))
            counts[len(greatest)] = counts.get(len(greatest), 0) + 1
            for size in range(len(wishes) + 1):
                for numbers in itertools.combinations(sorted(wishes), size):
                    self.assertIs(is_stuck_set(wishes, known, numbers), numbers in every)
            turned = dict(reversed(list(wishes.items())))
            self.assertEqual(stuck_set(turned, known), greatest)
        self.assertGreater(min([counts.get(size, 0) for size in range(4)]), 30)

    def test_values_that_are_no_sets(self):
        wishes = {**RING, 4: None}
        self.assertEqual([is_stuck_set(wishes, {9: "well"}, value) for value in ((), (1, 2, 3))], [True, True])
        for value in [one for one in ODD if one != ()] + [
                [1, 2, 3], (1, 3, 2), (1, 1, 2, 3), (1, 2, 3, 4), (1, 2, 3, 9), (1, 2, 3, 5), (True, 2, 3), (1, 2, "3"), (1, 2, (3,)),
                {1: 1, 2: 1, 3: 1}, (1, 2, None), (1, [2], 3), ((1, 2, 3),), (0, 1, 2, 3), (10 ** 70,)]:
            self.assertIs(is_stuck_set(wishes, {9: "well"}, value), False, value)
        for value in ODD:
            self.assertIs(is_stuck_set({1: ("left", 1)}, {}, (value,)), value is not True and value == 1)

    def test_errors(self):
        wrong = [value for value in ODD if value != {}] + [
            {1: ("well", 0)}, {1: SEVEN}, {1: nested(9)}, {True: None}, {0: None}, {1000001: None}, {"1": None}, {1: None, 2: ()},
            {1: "well(2)"}, {1: False}, {1: ("all",)}, [(1, None)], {at: None for at in range(1, 62)}]
        for value in wrong:
            self.refused(InvalidJob, stuck_set, value, {})
            self.refused(InvalidJob, stuck_set, value, None)
            self.refused(InvalidJob, is_stuck_set, value, {}, ())
        for value in [one for one in ODD if one != {}] + [{4: "over"}, {4: None}, {True: "well"}, {0: "well"}, {1000001: "gone"}, {"4": "well"}]:
            self.refused(InvalidJob, stuck_set, {5: ("well", 6)}, value)
            self.refused(InvalidJob, is_stuck_set, {5: ("well", 6)}, value, ())
        self.refused(InvalidJob, stuck_set, {1: ("well", 9), 2: None}, {3: "well", 2: "waiting"})
        self.assertEqual(stuck_set({at: ("over", at) for at in range(1, 61)}, {}), tuple(range(1, 61)))

    def test_jobs_in_neither(self):
        wishes = {5: ("or", (("well", 9), ("ill", 7))), 1: ("over", 8), 2: None}
        for known, lacking in (({}, 7), ({7: "well"}, 8), ({7: "well", 8: "ill"}, 9), ({6: "well", 9: "well", 8: "gone"}, 7)):
            self.assertEqual(self.refused(UnknownName, stuck_set, wishes, known).wanted, lacking)
            self.assertEqual(self.refused(UnknownName, is_stuck_set, wishes, known, None).wanted, lacking)

    def test_arguments_are_not_changed(self):
        wishes, known = {**RING, 4: None, 5: ("left", 6)}, {6: "begun"}
        before = (list(wishes.items()), list(known.items()))
        self.assertEqual([stuck_set(wishes, known), stuck_set(wishes, known)], [(1, 2, 3, 5)] * 2)
        self.assertIs(is_stuck_set(wishes, known, (5,)), True)
        self.assertEqual((list(wishes.items()), list(known.items())), before)

    def test_long_chains(self):
        chain = {at: ("over", at + 1) for at in range(1, 60)}
        self.assertEqual(stuck_set({**chain, 60: None}, {}), ())
        self.assertEqual(stuck_set({**chain, 60: ("over", 1)}, {}), tuple(range(1, 61)))
        self.assertEqual(stuck_set({**chain, 60: ("over", 30)}, {}), tuple(range(1, 61)))
        self.assertEqual(stuck_set({**chain, 30: ("or", (("over", 31), ("ill", 70))), 60: ("over", 60)}, {70: "begun"}), tuple(range(31, 61)))
