"""Points 4.1 to 4.6: choices of machines."""

import itertools
import random
import time

from toldstarts.base.amounts import Amounts
from toldstarts.errors import InvalidChoice
from toldstarts.house import choices as module
from toldstarts.house.choices import best_choice, choice_key, fitting, is_choice, is_short_set, short_set
from toldstarts.house.machines import Machine
from helper import Case, ODD, some

ALL, BIG = ("all",), ("mark", "big")
CORE = some(core=2)
CREW = tuple([(Machine("m" + str(at), CORE, marks=("big",) if at == 2 else (), rack="xyyx"[at]), CORE)
              for at in range(4)])
GROUPS = ((1, BIG, CORE), (2, ALL, Amounts()))


def member(at, rack="main", free=CORE, marks=()):
    return (Machine("m%d" % at, CORE, marks=marks, rack=rack), free)


def some_crew(chance, most=7):
    return tuple([member(at, chance.choice(("w", "x", "y", "z")), chance.choice((None, some(core=1), CORE, CORE, CORE)),
                         chance.choice(((), ("big",), ("big", "new"), ("new",)))) for at in range(chance.randrange(most))])


def some_groups(chance):
    forms = (ALL, BIG, ("mark", "new"), ("not", BIG), ("and", (BIG, ("mark", "new"))))
    return tuple([(chance.choice((1, 1, 2, 3)), chance.choice(forms), chance.choice((Amounts(), CORE, some(core=1))))
                  for _ in range(chance.choice((1, 2, 2, 3)))])


def fits_of(groups, crew):
    """4.3, straight from its words, for the formulas of these tests."""
    def holds(f, marks):
        if f[0] == "not":
            return not holds(f[1], marks)
        return f == ALL or f[0] == "mark" and f[1] in marks or f[0] == "and" and all([holds(g, marks) for g in f[1]])

    return [[at for at, (machine, free) in enumerate(crew)
             if free is not None and free["core"] >= amounts["core"] and holds(f, machine.marks)]
            for _, f, amounts in groups]


def all_choices(groups, crew):
    found = []
    for rows in itertools.product(*[itertools.combinations(fits, group[0])
                                    for group, fits in zip(groups, fits_of(groups, crew))]):
        members = [at for row in rows for at in row]
        if len(set(members)) == len(members):
            found.append((len(set([crew[at][0].rack for at in members])), rows))
    return sorted(found)


def is_short(groups, crew, indices):
    fits = fits_of(groups, crew)
    return sum([groups[at][0] for at in indices]) > len(set([one for at in indices for one in fits[at]]))


class Errors(Case):
    calls = (fitting, best_choice, short_set)
    judges = (is_choice, is_short_set, choice_key)

    def refuse(self, groups, crew):
        for call in self.calls:
            self.refused(InvalidChoice, call, groups, crew)
        for call in self.judges:
            self.refused(InvalidChoice, call, groups, crew, ((0,),))

    def test_constants(self):
        self.assertEqual((module.MAX_CREW, module.MAX_GROUPS, module.MAX_RACKS), (40, 6, 8))

    def test_no_groups(self):
        one = (1, ALL, CORE)
        for value in ODD + (one, [one], (one,) * 7, ((0, ALL, CORE),), ((41, ALL, CORE),), ((True, ALL, CORE),),
                            ((-1, ALL, CORE),), (("1", ALL, CORE),), ((1, "all", CORE),), ((1, ("mark", "all"), CORE),),
                            ((1, ALL, None),), ((1, ALL, ("core", 1)),), ((1, ALL),), ((1, ALL, CORE, 1),),
                            ([1, ALL, CORE],), (one, None), ((10 ** 70, ALL, CORE),)):
            self.refuse(value, CREW)
        for value in ODD:
            self.refuse(((value, BIG, CORE), (41, ALL, CORE)), CREW)
            self.refuse(((1, value, CORE),), CREW)
            if not isinstance(value, Amounts):
                self.refuse(((1, ALL, value),), CREW)
        self.assertEqual(fitting((one,) * 6, CREW), ((0, 1, 2, 3),) * 6)
        self.assertEqual(best_choice(((40, ALL, CORE),), CREW), None)

    def test_no_crews(self):
        for value in [one for one in ODD if one != ()] + [
                CREW[0], list(CREW), (CREW[0], CREW[0]), (member(1, "x"), member(1, "y")), (member(1), None),
                ((CREW[0][0],),), ((CREW[0][0], CORE, CORE),), ([CREW[0][0], CORE],), (("m1", CORE),), ((None, CORE),),
                ((CREW[0][0], 1),), ((CREW[0][0], ()),), tuple([member(at) for at in range(41)]),
                tuple([member(at, "r" + "abcdefghi"[at]) for at in range(9)])]:
            self.refuse(GROUPS, value)
        for value in ODD:
            if not isinstance(value, Machine):
                self.refuse(GROUPS, ((value, CORE),))
            if value is not None and not isinstance(value, Amounts):
                self.refuse(GROUPS, ((CREW[0][0], value),))
        self.assertEqual(fitting(GROUPS, ()), ((), ()))

    def test_edges(self):
        crew = tuple([member(at, "r" + "abcdefgh"[at % 8]) for at in range(40)])
        self.assertEqual(best_choice(((40, ALL, CORE),), crew), (tuple(range(40)),))
        self.assertEqual(choice_key(((40, ALL, CORE),), crew, (tuple(range(40)),))[0], 8)
        self.assertEqual(best_choice(((39, ALL, CORE), (2, ALL, CORE)), crew), None)
        self.assertEqual(best_choice(((1, ALL, CORE),) * 6, crew),
                         ((0,), (1,), (8,), (9,), (16,), (17,)))
        self.assertEqual(best_choice(((1, ALL, CORE),) * 5, crew), ((0,), (8,), (16,), (24,), (32,)))

    def test_a_wrong_choice_has_no_key(self):
        for value in ODD + (((2,), (0,)), ((2,), (2, 3)), ((0,), (1, 2)), ((2,), (1, 0)), ((2,),)):
            self.refused(InvalidChoice, choice_key, GROUPS, CREW, value)


class Choices(Case):
    def test_examples(self):
        self.assertEqual(fitting(GROUPS, CREW), ((2,), (0, 1, 2, 3)))
        self.assertEqual(best_choice(GROUPS, CREW), ((2,), (0, 1)))
        self.assertEqual(best_choice(((2, ALL, CORE),), CREW), ((0, 3),))
        self.assertEqual(short_set(((2, BIG, CORE),), CREW), (0,))
        self.assertIs(is_short_set(GROUPS, CREW, (0, 1)), False)
        self.assertEqual(choice_key(GROUPS, CREW, ((2,), (0, 1))), (2, ((2,), (0, 1))))

    def test_fitting(self):
        crew = (member(0, free=None), member(1, free=Amounts()), member(2, free=some(core=2, mem=1), marks=("big",)))
        self.assertEqual(fitting(((1, ALL, Amounts()), (1, ALL, CORE), (1, BIG, Amounts()), (1, ("not", BIG), CORE),
                                  (1, ALL, some(gpu=1))), crew), ((1, 2), (2,), (2,), (), ()))

    def test_fewer_racks_come_first(self):
        crew = (member(0, "a"), member(1, "b"), member(2, "c"), member(3, "c"))
        self.assertEqual(best_choice(((2, ALL, CORE),), crew), ((2, 3),))
        self.assertEqual(best_choice(((3, ALL, CORE),), crew), ((0, 2, 3),))
        self.assertEqual(best_choice(((1, ALL, CORE), (1, ALL, CORE)), crew), ((2,), (3,)))
        self.assertEqual(best_choice(((5, ALL, CORE),), crew), None)
        self.assertEqual(best_choice(((1, ALL, CORE),), ()), None)

    def test_best_choices_against_a_plain_search(self):
        chance = random.Random(12)
        found = [0, 0]
        for _ in range(1200):
            groups, crew = some_groups(chance), some_crew(chance)
            self.assertEqual(fitting(groups, crew), tuple([tuple(fits) for fits in fits_of(groups, crew)]))
            every = all_choices(groups, crew)
            best = best_choice(groups, crew)
            self.assertEqual(best, every[0][1] if every else None)
            sets = [indices for size in range(1, len(groups) + 1)
                    for indices in itertools.combinations(range(len(groups)), size)]
            short = [indices for indices in sets if is_short(groups, crew, indices)]
            self.assertIs(bool(short), not every)
            self.assertIn(short_set(groups, crew), short or [None])
            for indices in sets:
                self.assertIs(is_short_set(groups, crew, indices), indices in short)
            found[best is None] += 1
        self.assertGreater(min(found), 200)

    def test_is_choice_against_a_plain_search(self):
        chance = random.Random(13)
        found = {True: 0, False: 0}
        for _ in range(400):
            groups, crew = some_groups(chance), some_crew(chance, 6)
            every = {choice: racks for racks, choice in all_choices(groups, crew)}
            rows = [row for size in range(4) for row in itertools.product(range(len(crew)), repeat=size)]
            values = list(every) + [tuple(chance.choices(rows, k=len(groups))) for _ in range(60)]
            for value in values:
                self.assertIs(is_choice(groups, crew, value), value in every)
                found[value in every] += 1
                if value in every:
                    self.assertEqual(choice_key(groups, crew, value), (every[value], value))
                else:
                    self.refused(InvalidChoice, choice_key, groups, crew, value)
        self.assertGreater(min(found.values()), 200)

    def test_values_that_are_no_choice(self):
        self.assertIs(is_choice(GROUPS, CREW, ((2,), (0, 3))), True)
        for value in ODD + (((2,), (3, 0)), ((2,), (0, 0)), ((2,), (0, 2)), ((2,), (0,)), ((2,), (0, 1, 3)), ((1,), (0, 3)),
                            ((2,),), ((2,), (0, 3), ()), [(2,), (0, 3)], ([2], (0, 3)), ((2,), [0, 3]), ((2,), (0, 4)),
                            ((2,), (-1, 0)), ((2,), (False, 3)), ((2,), (0, 10 ** 70)), ((2,), ("0", 3)), (2, (0, 3))):
            self.assertIs(is_choice(GROUPS, CREW, value), False, value)
        for value in ODD:
            self.assertIs(is_choice(GROUPS, CREW, ((2,), value)), False)
            self.assertIs(is_choice(GROUPS, CREW, ((value,), (0, 3))), False)
            self.assertIs(is_choice(GROUPS, CREW, ((2,), (value, 3))),
                          not isinstance(value, bool) and value in (0, 1))

    def test_values_that_are_no_short_set(self):
        groups = ((2, BIG, CORE), (1, ALL, CORE), (5, ALL, CORE))
        self.assertEqual([indices for size in range(4) for indices in itertools.combinations(range(3), size)
                          if is_short_set(groups, CREW, indices)], [(0,), (2,), (0, 2), (1, 2), (0, 1, 2)])
        for value in ODD + ([0], (0, 0), (2, 0), (0, 3), (-1, 0), (True,), (False,), (0, True), ((0,),), ("0",), (None,)):
            self.assertIs(is_short_set(groups, CREW, value), False, value)

    def test_more_members_and_more_amounts(self):
        chance = random.Random(14)
        for _ in range(200):
            groups, crew = some_groups(chance), some_crew(chance, 6)
            every = [choice for _, choice in all_choices(groups, crew)]
            best = best_choice(groups, crew)
            more = crew + (member(99, chance.choice("wxyz"), CORE, ("big", "new")),)
            freer = tuple([(machine, free + some(core=1, gpu=1) if free is not None else CORE) for machine, free in crew])
            for other in (more, freer):
                self.assertTrue(all([is_choice(groups, other, choice) for choice in every]))
                if best is not None:
                    self.assertLessEqual(choice_key(groups, other, best_choice(groups, other)),
                                         choice_key(groups, other, best))
            for order in itertools.permutations(groups):
                self.assertIs(best_choice(order, crew) is None, best is None)

    def test_many_members(self):
        chance = random.Random(15)
        for _ in range(10):
            crew = tuple([member(at, "r" + chance.choice("abcdefgh"), CORE, chance.choice(((), ("big",), ("new",))))
                          for at in range(40)])
            groups = tuple([(chance.randrange(1, 8), chance.choice((ALL, BIG, ("mark", "new"))), CORE) for _ in range(6)])
            best, short = best_choice(groups, crew), short_set(groups, crew)
            self.assertIs(best is None, short is not None)
            if best is not None:
                self.assertIs(is_choice(groups, crew, best), True)
            else:
                self.assertIs(is_short_set(groups, crew, short), True)

    def test_the_greatest_groups_and_crews(self):
        groups = ((1, ALL, Amounts()),) * 5 + ((35, ALL, Amounts()),)
        crew = tuple([(Machine("x" + str(at), Amounts(), rack="rack" + "abcdefgh"[at % 8]), Amounts()) for at in range(40)])
        begun = time.perf_counter()
        for _ in range(5):
            self.assertEqual(best_choice(groups, crew), ((0,), (1,), (2,), (3,), (4,), tuple(range(5, 40))))
        for last in range(1, 36):
            found = best_choice(groups[:5] + ((last, ALL, Amounts()),), crew)
            self.assertEqual(choice_key(groups[:5] + ((last, ALL, Amounts()),), crew, found)[0], (last + 9) // 5)
        # Forty calls: 0.008 seconds are wanted for one, and machines differ.
        self.assertLess(time.perf_counter() - begun, 40 * 0.008 * 5)
        self.assertEqual(best_choice(groups[:5] + ((36, ALL, Amounts()),), crew), None)
        self.assertEqual(short_set(groups[:5] + ((36, ALL, Amounts()),), crew), (0, 1, 2, 3, 4, 5))
        self.assertEqual(short_set(((40, ALL, Amounts()),) * 6, ()), (0,))
        self.assertEqual(best_choice(((40, ALL, Amounts()),) * 6, crew), None)

    def test_many_groups_against_a_search_with_matchings(self):
        chance = random.Random(16)
        found = [0, 0]
        for _ in range(150):
            forms = (ALL, BIG, ("mark", "new"), ("not", BIG), ("and", (BIG, ("mark", "new"))))
            crew = tuple([member(at, "r" + chance.choice("abcdefgh"[:chance.choice((2, 5, 8))]), chance.choice((None, some(core=1), CORE, CORE, CORE)),
                                 chance.choice(((), ("big",), ("big", "new"), ("new",)))) for at in range(chance.randrange(8, 24))])
            groups = tuple([(chance.choice((1, 1, 2, 3)), chance.choice(forms), chance.choice((Amounts(), CORE))) for _ in range(chance.randrange(3, 7))])
            best = searched(groups, crew)
            self.assertEqual(best_choice(groups, crew), best)
            found[best is None] += 1
        self.assertGreater(min(found), 20)


def is_full(wants, fits):
    """Whether each want, a list of groups, gets a member of its own: by paths that let others change."""
    holder = {}

    def gets(want, seen):
        for one in fits[wants[want]]:
            if one not in seen:
                seen.add(one)
                if one not in holder or gets(holder[one], seen):
                    holder[one] = want
                    return True
        return False

    return all([gets(want, set()) for want in range(len(wants))])


def searched(groups, crew):
    """The best choice: for each set of racks, the fewest first, the members are taken one by one where matchings go on."""
    every = fits_of(groups, crew)
    racks = sorted(set([machine.rack for machine, _ in crew]))
    for size in range(1, len(racks) + 1):
        choices = []
        for some_racks in itertools.combinations(racks, size):
            fits = [[one for one in row if crew[one][0].rack in some_racks] for row in every]
            wants = [at for at, group in enumerate(groups) for _ in range(group[0])]
            if is_full(wants, fits):
                choices.append(taken(groups, fits))
        if choices:
            return min(choices)
    return None


def taken(groups, fits):
    choice, used = [], set()
    for at, group in enumerate(groups):
        members = []
        for one in fits[at]:
            if len(members) < group[0] and one not in used:
                gone = used | {one}
                wants = [at] * (group[0] - len(members) - 1) + [
                    other for other in range(at + 1, len(groups)) for _ in range(groups[other][0])]
                rest = [[member for member in row if member not in gone] for row in fits]
                rest[at] = [member for member in rest[at] if member > one]
                if is_full(wants, rest):
                    members.append(one)
                    used = gone
        choice.append(tuple(members))
    return tuple(choice)
