"""Points 7.3 to 7.5 and 7.7: formulas over the ends of other jobs."""

import ast
import itertools
import random
import re

from toldstarts.errors import InvalidFormula, InvalidJob, TooMany, UnknownName
from toldstarts.wait import formulas as module
from toldstarts.wait.fates import STATES, atoms_of, ends_of
from toldstarts.wait.formulas import (
    is_after_formula, is_lost_tree, jobs_named, lost_tree, may_come, parting_row, read_after, sure, true_now, write_after)
from helper import Case, ODD

WORDS = ("begun", "over", "well", "ill", "late", "left")
ONE, TWO = ("well", 1), ("ill", 2)
LOST = ("lost",)
NO_NUMBERS = (0, -1, 1000001, 10 ** 60, True, False, None, "1", (1,), [1], {})
SIX = ("or", tuple([("over", at) for at in range(1, 7)]))
SEVEN = ("or", tuple([("over", at) for at in range(1, 8)]))


def nested(depth):
    """A formula of a depth."""
    f = ONE
    for at in range(depth - 1):
        f = (("and", "or")[at % 2], (f, TWO))
    return f


def of_nodes(nodes):
    """A formula with so many nodes."""
    rows = []
    while nodes > 1:
        many = min(20, nodes - 2)
        many = many - 1 if nodes - 2 - many == 1 else many
        rows.append(("and", (ONE,) * many))
        nodes -= many + 1
    return ("or", tuple(rows))


def some_formula(chance, depth=3, jobs=(1, 2, 3), words=WORDS):
    if depth == 1 or chance.random() < 0.25:
        return (chance.choice(words), chance.choice(jobs))
    members = [some_formula(chance, depth - 1, jobs, words) for _ in range(chance.choice((2, 2, 3)))]
    return (chance.choice(("and", "or")), tuple(members))


def lost_often(chance, jobs=(1, 2, 3)):
    """A formula that often cannot come: a row of parts that must all be true."""
    words = ("well", "ill", "late", "left")
    return ("and", tuple([some_formula(chance, chance.choice((1, 2, 3)), jobs, words) for _ in range(chance.choice((2, 3, 4)))]))


def truth(f, states):
    """7.2 and 7.3 from their words."""
    if f[0] == "and":
        return all([truth(part, states) for part in f[1]])
    if f[0] == "or":
        return any([truth(part, states) for part in f[1]])
    state = states[f[1]]
    return {"begun": state not in ("waiting", "left"), "over": state not in ("waiting", "begun")}.get(f[0], state == f[0])


def outcomes(jobs, known, held=()):
    ends = [("waiting",) if job in held else ends_of(known[job]) for job in jobs]
    return [dict(zip(jobs, row)) for row in itertools.product(*ends)]


def is_right_tree(f, known, held, value, chosen=()):
    """7.5 from its words."""
    chosen = dict(chosen)
    if value == LOST:
        def read(g):
            if g[0] in ("and", "or"):
                return (all if g[0] == "and" else any)([read(part) for part in g[1]])
            word, job = g
            if job in chosen:
                return word in atoms_of(chosen[job])
            if job in held:
                return False
            return any([word in atoms_of(end) for end in ends_of(known[job])])
        return not read(f)
    if type(value) is not tuple or len(value) != 3 or value[0] != "split" or type(value[1]) is not int:
        return False
    _, job, rows = value
    if job not in jobs_named(f) or job in held or job in chosen or type(rows) is not tuple:
        return False
    if not all([type(row) is tuple and len(row) == 2 for row in rows]):
        return False
    if tuple([row[0] for row in rows]) != ends_of(known[job]):
        return False
    return all([is_right_tree(f, known, held, tree, {**chosen, job: end}) for end, tree in rows])


def some_known(chance, jobs=(1, 2, 3)):
    return {job: chance.choice(("waiting", "waiting", "begun", "begun") + STATES) for job in jobs}


class Forms(Case):
    def test_constants(self):
        self.assertEqual((module.MAX_NAMED, module.MAX_PARTED, module.MAX_AFTER_NODES, module.MAX_DEEP), (6, 5, 60, 8))

    def test_formulas(self):
        for f in [(word, number) for word in WORDS for number in (1, 7, 1000000)] + [
                ("and", (ONE, TWO)), ("or", (ONE, ONE)), ("and", (ONE, ("or", (TWO, ("and", (ONE, TWO))))))]:
            self.assertIs(is_after_formula(f), True, f)
        for value in ODD + (("gone", 1), ("waiting", 1), ("well",), ("well", 1, 1), ["well", 1], "well(1)", ("Well", 1),
                            ("and", ONE), ("and", ()), ("and", (ONE,)), ("and", [ONE, TWO]), ("or", (ONE, "well(1)")),
                            ("not", ONE), ("and", (ONE, TWO), 1), ("and", (ONE, ["ill", 2])), (("well",), 1), ([], 1),
                            (None, 1), ("all",), ("mark", "a"), ("and", (ONE, ())), ("and", (ONE, None))):
            self.assertIs(is_after_formula(value), False, value)
        for number in NO_NUMBERS:
            self.assertIs(is_after_formula(("well", number)), False)
            self.assertIs(is_after_formula(("and", (ONE, ("over", number)))), False)
        for value in ODD:
            self.assertIs(is_after_formula(("left", value)), value is not True and value in (1, 7))
            self.assertIs(is_after_formula((value, 1)), False)
            self.assertIs(is_after_formula(("or", value)), False)

    def test_edges(self):
        for right, wrong in ((nested(8), nested(9)), (("or", (ONE,) * 20), ("or", (ONE,) * 21)), (SIX, SEVEN),
                             (of_nodes(60), of_nodes(61))):
            self.assertIs(is_after_formula(right), True)
            self.assertIs(is_after_formula(wrong), False)
        self.assertIs(is_after_formula(nested(1)), True)
        wide = ONE
        for _ in range(12):
            wide = ("and", (wide,) * 20)
        self.assertIs(is_after_formula(wide), False)

    def test_jobs(self):
        self.assertEqual(jobs_named(("and", (("well", 9), ("or", (("ill", 1000000), ("left", 9), ("over", 2)))))), (2, 9, 1000000))
        self.assertEqual(jobs_named(("left", 3)), (3,))

    def test_no_formulas(self):
        known = {1: "begun", 2: "waiting"}
        for value in ODD + (SEVEN, nested(9), of_nodes(61), ("well", True)):
            for call in (jobs_named, write_after):
                self.refused(InvalidFormula, call, value)
            for call in (true_now, may_come, sure, lost_tree):
                self.refused(InvalidFormula, call, value, known)
                self.refused(InvalidFormula, call, value, None)
            self.refused(InvalidFormula, is_lost_tree, value, None, LOST)
            self.refused(InvalidFormula, may_come, value, known, held=None)
            self.refused(InvalidFormula, parting_row, value, ONE)
            self.refused(InvalidFormula, parting_row, ONE, value)
            self.refused(InvalidFormula, parting_row, SIX, value)

    def test_no_known_and_no_held(self):
        wrong = [value for value in ODD if value != {}] + [
            {1: "over"}, {1: "begun", 2: None}, {True: "well"}, {0: "well"}, {1000001: "well"}, {"1": "well"},
            {(1,): "well"}, {1: ("well",)}, {1: ["well"]}, {1: "begun", -1: "well"}, [(1, "well")], ((1, "well"),)]
        for known in wrong:
            for call in (true_now, may_come, sure, lost_tree):
                self.refused(InvalidJob, call, ONE, known)
            self.refused(InvalidJob, is_lost_tree, ONE, known, LOST)
        known = {1: "begun", 2: "waiting", 3: "waiting", 4: "left"}
        for held in [value for value in ODD if value != ()] + [
                (3, 2), (2, 2), (1,), (2, 4), (5,), [2], {2: 1}, (True,), (2, None), "2", ("2",), ((2,),)]:
            self.refused(InvalidJob, may_come, ONE, known, held=held)
            self.refused(InvalidJob, lost_tree, ("well", 9), known, held=held)
            self.refused(InvalidJob, is_lost_tree, ONE, known, LOST, held=held)
        self.assertIs(may_come(ONE, known, held=(2, 3)), True)

    def test_jobs_that_are_not_known(self):
        f = ("and", (("well", 9), ("or", (("ill", 4), ("left", 2)))))
        for known, lacking in (({}, 2), ({2: "well"}, 4), ({9: "well", 4: "ill"}, 2), ({2: "gone", 4: "well", 8: "well"}, 9)):
            for call in (true_now, may_come, sure, lost_tree):
                self.assertEqual(self.refused(UnknownName, call, f, known).wanted, lacking)
            self.assertEqual(self.refused(UnknownName, is_lost_tree, f, known, LOST).wanted, lacking)
        # The jobs that are known and not named have no effect.
        self.assertIs(sure(ONE, {1: "well", 2: "begun", 1000000: "waiting"}), True)


class Truth(Case):
    def test_examples(self):
        f = read_after("well(1) & (ill(1) | over(2))")
        self.assertEqual([true_now(f, {1: "well", 2: "begun"}), may_come(f, {1: "begun", 2: "waiting"}),
                          may_come(f, {1: "ill", 2: "well"}), sure(f, {1: "well", 2: "begun"})], [False, True, False, True])

    def test_held_jobs(self):
        known = {1: "waiting", 2: "begun", 3: "waiting"}
        f = ("or", (("over", 1), ("and", (("over", 3), ("ill", 2)))))
        self.assertEqual([may_come(f, known, held=held) for held in ((), (1,), (3,), (1, 3))], [True, True, True, False])
        self.assertEqual(lost_tree(f, known, held=(1, 3)), LOST)
        self.assertIs(may_come(("left", 3), known, held=(1,)), True)
        for word in WORDS:
            self.assertIs(may_come((word, 1), known, held=(1,)), False)

    def test_arguments_are_not_changed(self):
        f, known = ("and", (ONE, ("or", (("left", 3), ("well", 2))))), {3: "waiting", 1: "begun", 2: "ill", 9: "gone"}
        before = list(known.items())
        for held in ((), (3,)):
            results = [(true_now(f, known), may_come(f, known, held=held), sure(f, known), lost_tree(f, known, held=held)) for _ in range(2)]
            self.assertEqual(results[0], results[1])
        self.refused(UnknownName, may_come, ("well", 4), known)
        self.assertEqual(list(known.items()), before)

    def test_against_all_outcomes(self):
        chance = random.Random(71)
        counts = {}
        for at in range(1500):
            f = lost_often(chance) if at % 2 else some_formula(chance, 4)
            known = some_known(chance, (1, 2, 3, 4))
            jobs = jobs_named(f)
            held = tuple([job for job in known if known[job] == "waiting" and chance.random() < 0.3])
            found = [truth(f, states) for states in outcomes(jobs, known)]
            beside = [truth(f, states) for states in outcomes(jobs, known, held)]
            self.assertIs(true_now(f, known), truth(f, known))
            self.assertIs(may_come(f, known), any(found))
            self.assertIs(sure(f, known), all(found))
            self.assertIs(may_come(f, known, held=held), any(beside))
            tree = lost_tree(f, known, held=held)
            self.assertIs(tree is None, any(beside))
            if tree is not None:
                self.assertTrue(is_right_tree(f, known, held, tree))
                self.assertIs(is_lost_tree(f, known, tree, held=held), True)
            case = (any(found), all(found), truth(f, known), any(beside))
            counts[case] = counts.get(case, 0) + 1
        self.assertGreater(min([counts.get(case, 0) for case in (
            (False, False, False, False), (True, False, False, True), (True, True, False, True), (True, True, True, True),
            (True, False, False, False))]), 20)

    def test_six_jobs(self):
        chance = random.Random(72)
        jobs = (1, 2, 3, 4, 5, 1000000)
        for _ in range(6):
            f = ("and", tuple([("or", tuple([(chance.choice(("well", "ill", "late", "left")), job)
                                             for job in chance.sample(jobs, 2)])) for _ in range(18)]))
            known = {job: "waiting" for job in jobs}
            self.assertIs(may_come(f, known), any([truth(f, states) for states in outcomes(jobs_named(f), known)]))
            tree = lost_tree(f, known)
            self.assertIs(tree is None, may_come(f, known))
            self.assertIs(is_lost_tree(f, known, tree), tree is not None)
        self.assertIs(sure(("or", tuple([(word, 1) for word in ("left", "begun")])), {1: "waiting"}), True)
        self.assertIs(sure(("or", tuple([(word, 1) for word in ("left", "well", "ill", "late")])), {1: "waiting"}), False)


class Trees(Case):
    def test_example(self):
        both = ("and", (ONE, ("ill", 1)))
        tree = ("split", 1, tuple([(end, LOST) for end in ("well", "ill", "late", "gone")]))
        self.assertEqual([may_come(both, {1: "begun"}), lost_tree(both, {1: "begun"})], [False, tree])
        self.assertEqual(lost_tree(both, {1: "well"}), LOST)

    def every_tree(self, f, known, held, jobs):
        """Trees of many forms, right and wrong: each one splits any jobs in any order."""
        found = [LOST]
        for job in jobs:
            rest = [other for other in jobs if other != job]
            below = self.every_tree(f, known, held, rest)
            ends = ends_of(known[job])
            for tree in below:
                found.append(("split", job, tuple([(end, tree) for end in ends])))
            if len(below) > 1:
                found.append(("split", job, tuple([(end, below[at % len(below)]) for at, end in enumerate(ends)])))
        return found

    def test_trees_of_other_makers(self):
        chance = random.Random(73)
        counts = {True: 0, False: 0}
        for _ in range(300):
            f, known = lost_often(chance, (1, 2)), some_known(chance, (1, 2, 3))
            held = tuple([job for job in known if known[job] == "waiting" and chance.random() < 0.3])
            for value in self.every_tree(f, known, held, (1, 2, 3)):
                right = is_right_tree(f, known, held, value)
                self.assertIs(is_lost_tree(f, known, value, held=held), right, (f, known, held, value))
                counts[right] += 1
        self.assertGreater(min(counts.values()), 1000)

    def test_values_near_a_tree(self):
        f, known = ("and", (("well", 1), ("ill", 1), ("over", 2))), {1: "begun", 2: "waiting", 3: "begun"}
        rows = tuple([(end, LOST) for end in ends_of("begun")])
        tree = ("split", 1, rows)
        self.assertIs(is_lost_tree(f, known, tree), True)
        deeper = ("split", 2, tuple([(end, tree) for end in ends_of("waiting")]))
        self.assertIs(is_lost_tree(f, known, deeper), True)
        again = ("split", 1, ((rows[0][0], tree),) + rows[1:])
        for value in ODD + (LOST, ["lost"], "lost", ("lost", ()), ("Lost",), ("split", 1), ("split", 1, rows, ()), ["split", 1, rows],
                            ("split", True, rows), ("split", "1", rows), ("split", 3, rows), ("split", 4, rows),
                            ("split", (1,), rows), ("split", [1], rows), ("split", 1, list(rows)), ("split", 1, rows[:3]),
                            ("split", 1, rows[1:] + rows[:1]), ("split", 1, rows + (("left", LOST),)),
                            ("split", 1, (("left", LOST),) + rows), ("split", 1, tuple([LOST] * 4)),
                            ("split", 1, tuple([(end, ["lost"]) for end, _ in rows])),
                            ("split", 1, tuple([[end, LOST] for end, _ in rows])), ("Split", 1, rows), again,
                            ("split", 1, tuple([(end, LOST, LOST) for end, _ in rows])), ("split", 1, dict(rows)),
                            ("split", 1, tuple([(LOST, end) for end, _ in rows]))):
            self.assertIs(is_lost_tree(f, known, value), False, value)
        for value in ODD:
            self.assertIs(is_lost_tree(f, known, ("split", 1, ((value, LOST),) + rows[1:])), False)
            self.assertIs(is_lost_tree(f, known, ("split", 1, ((rows[0][0], value),) + rows[1:])), False)
            self.assertIs(is_lost_tree(f, known, ("split", 1, (value,) + rows[1:])), False)
            self.assertIs(is_lost_tree(f, known, (value, 1, rows)), False)
            self.assertIs(is_lost_tree(f, known, ("split", value, rows)), value is not True and value == 1)
        # A held job is not split, and a job of the formula that is not held must be looked at.
        self.assertIs(is_lost_tree(f, known, deeper, held=(2,)), False)
        self.assertIs(is_lost_tree(f, known, LOST, held=(2,)), True)
        self.assertIs(is_lost_tree(f, known, tree, held=(2,)), True)
        self.assertIs(is_lost_tree(("over", 2), known, LOST), False)


class Partings(Case):
    def test_alike(self):
        self.assertIs(parting_row(("or", (ONE, ONE)), ONE), None)
        self.assertIs(parting_row(("and", (("over", 1), ("begun", 1))), ("and", (("begun", 1), ("over", 1), ("over", 1)))), None)
        self.assertEqual(parting_row(("over", 1), ("or", (("begun", 1), ("left", 1)))), ((1, 1),))
        self.assertEqual(parting_row(ONE, ("well", 2)), ((1, 0), (2, 3)))
        self.assertEqual(parting_row(("or", (ONE, ("and", (("well", 2), ("ill", 2))))), ONE), None)

    def test_against_all_rows(self):
        chance = random.Random(74)
        found = [0, 0]
        for at in range(500):
            f = some_formula(chance, 3)
            g = f if at % 4 == 0 else some_formula(chance, 3)
            if at % 4 == 1:
                g = ("and", (f, ("or", (f, g)))) if chance.random() < 0.5 else ("or", (f, ("and", (f, g))))
            jobs = sorted(set(jobs_named(f)) | set(jobs_named(g)))
            rows = [row for row in itertools.product(range(7), repeat=len(jobs))
                    if truth(f, {job: STATES[place] for job, place in zip(jobs, row)})
                    != truth(g, {job: STATES[place] for job, place in zip(jobs, row)})]
            expected = tuple(zip(jobs, min(rows))) if rows else None
            self.assertEqual(parting_row(f, g), expected)
            found[expected is None] += 1
        self.assertGreater(min(found), 100)

    def test_five_jobs_and_one_more(self):
        five = ("and", tuple([("late", at) for at in range(1, 6)]))
        self.assertEqual(parting_row(five, ("and", five[1][:4])), ((1, 5), (2, 5), (3, 5), (4, 5), (5, 0)))
        self.assertEqual(parting_row(five, ("left", 3)), ((1, 0), (2, 0), (3, 2), (4, 0), (5, 0)))
        self.assertEqual(self.refused(TooMany, parting_row, five, ("well", 6)).most, 5)
        self.assertEqual(self.refused(TooMany, parting_row, SIX, SIX).most, 5)


class Texts(Case):
    def test_writing(self):
        a, b, c = ("well", 1), ("over", 20), ("left", 1000000)
        for f, text in ((a, "well(1)"), (("and", (a, b, c)), "well(1) & over(20) & left(1000000)"),
                        (("or", (a, b)), "well(1) | over(20)"), (("or", (("and", (a, b)), c)), "well(1) & over(20) | left(1000000)"),
                        (("and", (("or", (a, b)), c)), "(well(1) | over(20)) & left(1000000)"),
                        (("and", (("and", (a, b)), c)), "(well(1) & over(20)) & left(1000000)"),
                        (("or", (("or", (a, b)), c)), "(well(1) | over(20)) | left(1000000)")):
            self.assertEqual(write_after(f), text)
            self.assertEqual(read_after(text), f)

    def test_what_is_written_is_read(self):
        chance = random.Random(75)
        for _ in range(600):
            f = some_formula(chance, 5, (1, 2, 30, 456, 1000000))
            if is_after_formula(f):
                text = write_after(f)
                self.assertEqual(read_after(text), f)
                self.assertEqual(read_after(text.replace(" ", "")), f)
                self.assertEqual(read_after(re.sub(r"(\W)", r"  \1 ", text)), f)

    def test_reading(self):
        for text, f in ((" well ( 1 ) ", ONE), ("((well(1)))", ONE), ("well(1)&ill(2)", ("and", (ONE, TWO))),
                        ("well(1)|ill(2)&ill(2)", ("or", (ONE, ("and", (TWO, TWO))))), ("(well(1)&ill(2))", ("and", (ONE, TWO))),
                        ("((well(1)) | (ill(2)))", ("or", (ONE, TWO)))):
            self.assertEqual(read_after(text), f, text)

    def test_wrong_texts(self):
        for text, spot in (("", 0), ("   ", 3), ("well", 4), ("well ", 5), ("well(", 5), ("well( ", 6), ("well(1", 6), ("well(1 ", 7),
                           ("wel(1)", 0), ("wells(1)", 0), (" gone(1)", 1), ("Well(1)", 0), ("well 1", 5), ("well()", 5),
                           ("well(0)", 5), ("well(01)", 5), ("well(1000000)", None), ("well(1000001)", 5), ("well(10000000)", 5),
                           ("well( 99999999999999999999)", 6), ("well(-1)", 5), ("well(1 2)", 7), ("well(1a)", 6), ("well(a)", 5),
                           ("well(1))", 7), ("well(1) ill(2)", 8), ("well(1) &", 9), ("well(1) & ", 10), ("well(1) && ill(2)", 9),
                           ("& well(1)", 0), ("well(1) | | ill(2)", 10), ("(well(1)", 8), ("(well(1) ", 9), ("()", 1), (")", 0),
                           ("(", 1), ("1", 0), ("well(1)\n", 7), ("well\t(1)", 4), ("well(1) + ill(2)", 8), ("!well(1)", 0),
                           ("well(1)(", 7), ("well((1))", 5), ("well(1)1", 7), ("well(1)well", 7), ("(well)(1)", 5),
                           ("well(1) & #", 10), ("well(1) x #", 8), ("well(%s)" % ("9" * 3990), 5)):
            if spot is None:
                self.assertEqual(read_after(text), ("well", 1000000))
            else:
                self.wrong_at(spot, read_after, text)
        for value in ODD:
            if not isinstance(value, str):
                self.wrong_at(None, read_after, value)
        self.wrong_at(0, read_after, "a" * 4001)
        self.wrong_at(0, read_after, "~" * 4001)
        self.wrong_at(4001, read_after, " " * 4001)

    def test_sixty_four_open_parentheses_and_one_more(self):
        self.assertEqual(read_after("(" * 64 + "well(1)" + ")" * 64), ONE)
        self.assertEqual(read_after("(" * 64 + "well(1)" + ")" * 64 + "&(((ill(2))))"), ("and", (ONE, TWO)))
        self.wrong_at(64, read_after, "(" * 65 + "well(1)" + ")" * 65)
        self.wrong_at(64, read_after, "(" * 65)
        self.wrong_at(64, read_after, "(" * 64)
        self.wrong_at(74, read_after, "(" * 64 + "well(1)" + ")" + "&(" + "(" + "ill(2)")
        self.assertEqual(read_after("(" * 64 + "well(1)" + ")" + "&(ill(2))" + ")" * 63), ("and", (ONE, TWO)))

    def test_what_is_read_and_is_no_formula(self):
        for right, wrong in ((("or", (ONE,) * 20), ("or", (ONE,) * 21)), (SIX, SEVEN), (nested(8), nested(9)), (of_nodes(60), of_nodes(61))):
            self.assertEqual(read_after(write_after(right)), right)
            sign = " & " if wrong[0] == "and" else " | "
            text = sign.join(["(" + text_of(part) + ")" for part in wrong[1]])
            self.wrong_at(len(text), read_after, text)
            self.wrong_at(len(text) + 2, read_after, text + "  ")
            self.wrong_at(len(text) + 1, read_after, text + " #")
        self.wrong_at(3999, read_after, "well(1)|" * 499 + "well(1)")

    def test_all_short_rows_of_tokens(self):
        tokens = ("well", "over", "x", "(", ")", "&", "|", "1", "20", "0", "1000001", "-")
        seen = {}

        def goes_on(text):
            if text not in seen:
                seen[text] = any([plain_formula(text + more + ")" * many) is not None for many in range(text.count("(") + 2)
                                  for more in ("", "well(1)", "(1)", "1)", ")")])
            return seen[text]

        looked, texts = 0, [""]
        while texts:
            text = texts.pop()
            looked += 1
            if text and not goes_on(text):
                self.wrong_at(text.rindex(" ") + 1, read_after, text)
                self.wrong_at(text.rindex(" ") + 1, read_after, text + " & ?")
                continue
            if plain_formula(text) is None:
                self.wrong_at(len(text), read_after, text)
            else:
                self.assertEqual(read_after(text), plain_formula(text), text)
            if text.count(" ") < 7:
                texts.extend([text + " " + token for token in tokens])
        self.assertGreater(looked, 1000)


def text_of(f):
    """Any text of what need not be a formula."""
    if f[0] not in ("and", "or"):
        return "%s(%d)" % f
    return (" & " if f[0] == "and" else " | ").join(["(" + text_of(part) + ")" for part in f[1]])


def plain_formula(text):
    """What a text tells, read as an expression of Python, or None."""
    atoms = []

    def kept(match):
        atoms.append((match.group(1), int(match.group(2))))
        return " A%d " % len(atoms)

    text = re.sub(r"\b(begun|over|well|ill|late|left) *\( *([1-9]\d{0,5}|1000000) *\)", kept, text)
    if re.search(r"[a-z?-]|(^|[^A\d])\d|[\dA)] *\(|\( *\)|\d +[A\d]|\) *A", text):
        return None
    try:
        node = ast.parse(text.replace("&", " and ").replace("|", " or ").strip(), mode="eval").body
    except SyntaxError:
        return None

    def made(node):
        if isinstance(node, ast.Name):
            return atoms[int(node.id[1:]) - 1]
        if isinstance(node, ast.BoolOp):
            return ("and" if isinstance(node.op, ast.And) else "or", tuple([made(part) for part in node.values]))
        return None

    return made(node)
