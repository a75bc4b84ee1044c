"""Points 7.1 and 7.2: states, their ends, and the atoms that are true in them."""

from toldstarts.errors import InvalidJob
from toldstarts.wait import fates as module
from toldstarts.wait.fates import STATES, atoms_of, ends_of, is_state, may_follow
from helper import Case, ODD

ENDS = ("left", "well", "ill", "late", "gone")
NO_STATES = ODD + ("Waiting", "wait", "over", "begun ", "gone\n", ("well",), ["well"], {"well": 1}, b"well")


class Fates(Case):
    def test_states(self):
        self.assertEqual(module.STATES, ("waiting", "begun", "left", "well", "ill", "late", "gone"))
        for state in STATES:
            self.assertIs(is_state(state), True)
        for value in NO_STATES:
            self.assertIs(is_state(value), False, value)

    def test_ends(self):
        self.assertEqual(ends_of("waiting"), ENDS)
        self.assertEqual(ends_of("begun"), ENDS[1:])
        for end in ENDS:
            self.assertEqual(ends_of(end), (end,))

    def test_ends_are_what_the_steps_lead_to(self):
        for state in STATES:
            reached, row = [], [state]
            while row:
                one = row.pop()
                reached.append(one)
                row.extend([other for other in STATES if may_follow(one, other)])
            self.assertEqual(ends_of(state), tuple([end for end in ENDS if end in reached]))

    def test_atoms(self):
        for state, words in (("waiting", ()), ("begun", ("begun",)), ("left", ("over", "left")),
                             ("well", ("begun", "over", "well")), ("ill", ("begun", "over", "ill")),
                             ("late", ("begun", "over", "late")), ("gone", ("begun", "over"))):
            self.assertEqual(atoms_of(state), words)

    def test_an_atom_that_is_true_stays_true(self):
        for one in STATES:
            for other in STATES:
                if may_follow(one, other):
                    self.assertLessEqual(set(atoms_of(one)), set(atoms_of(other)))

    def test_steps(self):
        steps = {("waiting", "begun"), ("waiting", "left")} | {("begun", end) for end in ENDS[1:]}
        for one in STATES:
            for other in STATES:
                self.assertIs(may_follow(one, other), (one, other) in steps)

    def test_errors(self):
        for value in NO_STATES:
            for call in (ends_of, atoms_of):
                self.refused(InvalidJob, call, value)
            self.refused(InvalidJob, may_follow, value, "well")
            self.refused(InvalidJob, may_follow, "well", value)
            self.refused(InvalidJob, may_follow, "begun", value)
            self.refused(InvalidJob, may_follow, value, value)
