"""The examples of the document, and the names and places of its interface."""

import importlib
import inspect

from toldstarts.base.amounts import Amounts
from toldstarts.base.ticks import text_of_ticks, ticks_of
from toldstarts.errors import Lacking, ParseError
from toldstarts.house.choices import best_choice, fitting, is_short_set, short_set
from toldstarts.house.formulas import plain_form, read_formula, write_formula
from toldstarts.house.machines import Machine, fold_names, unfold_names
from toldstarts.jobs.jobs import Job
from toldstarts.jobs.likes import Row, fold_indices, fold_states, unfold_indices
from toldstarts.jobs.reader import read_job, write_job
from toldstarts.rank.accounts import Accounts
from toldstarts.rank.scores import Weights, order_turns, ranked, score
from toldstarts.room.rooms import Room
from toldstarts.wait.formulas import jobs_named, lost_tree, may_come, parting_row, read_after, sure, true_now, write_after
from toldstarts.wait.stuck import stuck_set
from helper import Case

# For each module its functions with their parameters, and its classes with the methods that the document lists.
FUNCTIONS = {
    "toldstarts.base.ticks": ("is_tick(value)", "text_of_ticks(number)", "ticks_of(text)"),
    "toldstarts.house.machines": (
        "is_machine_name(value)", "sorted_names(names)", "fold_names(names)", "unfold_names(text)"),
    "toldstarts.house.formulas": (
        "is_formula(value)", "marks_in(f)", "read_formula(text)", "write_formula(f)", "holds(f, marks)",
        "parting(f, g, marks)", "plain_form(f, marks)", "is_plain_form(f, marks, value)"),
    "toldstarts.house.choices": (
        "fitting(groups, crew)", "best_choice(groups, crew)", "is_choice(groups, crew, value)",
        "choice_key(groups, crew, choice)", "short_set(groups, crew)", "is_short_set(groups, crew, value)"),
    "toldstarts.jobs.reader": ("read_job(text)", "write_job(job)"),
    "toldstarts.jobs.likes": (
        "fold_indices(indices)", "unfold_indices(text)", "fold_states(rows, states)", "unfold_states(rows, lines)"),
    "toldstarts.rank.scores": (
        "score(weights, entry, tick, order)", "ranked(weights, entries, tick, order)",
        "order_turns(weights, entries, accounts, tick, length)",
        "is_order_turns(weights, entries, accounts, tick, length, value)"),
    "toldstarts.wait.stuck": ("stuck_set(wishes, known)", "is_stuck_set(wishes, known, value)"),
    "toldstarts.wait.fates": ("is_state(value)", "ends_of(state)", "atoms_of(state)", "may_follow(one, other)"),
    "toldstarts.wait.formulas": (
        "is_after_formula(value)", "jobs_named(f)", "read_after(text)", "write_after(f)", "true_now(f, known)",
        "may_come(f, known, *, held=())", "sure(f, known)", "parting_row(f, g)", "lost_tree(f, known, *, held=())",
        "is_lost_tree(f, known, value, *, held=())"),
}
CLASSES = {
    "toldstarts.base.amounts": ("Amounts", "(pairs=())", (
        "of_text", "cover_of", "pairs", "kinds", "covers", "lacks", "times", "__getitem__", "__add__", "__sub__",
        "__mul__", "__contains__", "__len__", "__bool__", "__iter__", "__eq__", "__str__")),
    "toldstarts.room.rooms": ("Room", "(amounts, *, period=1)", (
        "amounts", "period", "head", "claims", "windows", "with_claim", "with_window", "without_claim",
        "without_window", "free", "least", "area_of", "steps", "fits", "earliest", "bars", "is_bars", "__len__",
        "__eq__", "__str__")),
    "toldstarts.house.machines": ("Machine", "(name, amounts, *, marks=(), rack='main')", (
        "name", "amounts", "marks", "rack", "__eq__", "__str__")),
    "toldstarts.jobs.jobs": (
        "Job", "(name, *, account, person, doors, groups, tokens=None, limit, grade=0, after=None)", (
            "name", "account", "person", "doors", "groups", "tokens", "limit", "grade", "after", "machines", "size", "total",
            "changed", "__eq__", "__str__")),
    "toldstarts.jobs.likes": ("Row", "(first, indices, *, at_once=None)", (
        "first", "indices", "at_once", "numbers", "kind", "amounts", "number_of", "index_of", "part_name", "part",
        "__contains__", "__len__", "__iter__", "__eq__", "__str__")),
    "toldstarts.rank.accounts": ("Accounts", "(rows)", (
        "with_use", "use_of", "fraction_of", "fair_order", "turns", "parent_of", "share_of", "line", "children_of", "names",
        "newest", "levels", "__len__", "__contains__", "__iter__", "__eq__", "__str__")),
    "toldstarts.rank.scores": ("Weights", "(*, age=1, cap=10000, size=0, grade=0, place=0)", (
        "age", "cap", "size", "grade", "place", "changed", "__eq__", "__str__")),
}


class Interface(Case):
    def test_functions(self):
        for module, headings in FUNCTIONS.items():
            for heading in headings:
                function = getattr(importlib.import_module(module), heading.partition("(")[0])
                self.assertEqual(function.__name__ + str(inspect.signature(function)), heading)
                self.assertEqual(function.__module__, module)

    def test_classes(self):
        for module, (name, signature, methods) in CLASSES.items():
            made = getattr(importlib.import_module(module), name)
            self.assertEqual(made.__module__, module)
            self.assertEqual(str(inspect.signature(made)), signature)
            self.assertEqual([method for method in methods if method not in made.__dict__], [])


class Examples(Case):
    def test_ticks(self):
        self.assertEqual([text_of_ticks(0), text_of_ticks(93784), text_of_ticks(1000000), ticks_of("90"),
                          ticks_of("1:05"), ticks_of("2-3")],
                         ["00:00:00", "1-02:03:04", "11-13:46:40", 5400, 65, 183600])
        self.refused(ParseError, ticks_of, "1:60")

    def test_amounts(self):
        have, want = Amounts((("core", 8), ("mem", 100))), Amounts.of_text(" mem 30,core 2 ")
        self.assertEqual([str(want), have.times(want), str(have - want), str(want.lacks(have)), str(want * 0),
                          have["core"], have["gpu"], "mem" in have],
                         ["core 2, mem 30", 3, "core 6, mem 70", "core 6, mem 70", "nothing", 8, 0, True])
        self.assertEqual([str(Amounts.cover_of(want, Amounts((("core", 5),)))), have.covers(want), len(have),
                          bool(Amounts()), list(want)],
                         ["core 5, mem 30", True, 2, False, [("core", 2), ("mem", 30)]])
        self.refused(Lacking, lambda: want - have)

    def test_rooms(self):
        two, three, four = Amounts((("core", 2),)), Amounts((("core", 3),)), Amounts((("core", 4),))
        room = Room(four, period=10).with_claim((0, 5, three)).with_window((8, 2, four))
        self.assertEqual([room.head, room.earliest(two, 3, 0), room.earliest(two, 4, 0), room.earliest(two, 9, 0)],
                         [8, 5, 10, None])
        self.assertEqual([[tick for tick, some in room.steps(0, 20)], room.area_of("core", 0, 10), str(room)],
                         [[0, 5, 8, 10, 18], 17, "room with 1 claims, 1 windows"])
        paper = ((0, 5, ("short", "core", 0, 4)), (5, 10, ("short", "core", 8, 9)))
        self.assertEqual([room.is_bars(two, 4, 0, 10, paper), room.is_bars(two, 4, 0, 5, paper[:1])], [True, True])

    def test_machines(self):
        self.assertEqual([fold_names(("m10", "m9", "m", "m1", "gpu3", "m2")), unfold_names("b,m[3,1-2],m2")],
                         ["gpu3,m,m[1-2,9-10]", ("b", "m1", "m2", "m3")])
        self.assertEqual(str(Machine("m17", Amounts())), "m17 in main")

    def test_formulas(self):
        a, b, c = ("mark", "a"), ("mark", "b"), ("mark", "c")
        self.assertEqual(
            [read_formula(" a&b | !(c|a) "), write_formula(("and", (("or", (a, b)), ("not", ("not", c)), ("all",))))],
            [("or", (("and", (("mark", "a"), ("mark", "b"))), ("not", ("or", (("mark", "c"), ("mark", "a")))))),
             "(a | b) & !!c & all"])
        self.assertEqual(plain_form(("or", (("and", (a, b)), ("and", (("not", a), c)))), ("a", "b", "c")),
                         ((("a", "b"), ()), (("b", "c"), ()), (("c",), ("a",))))

    def test_choices(self):
        core = Amounts((("core", 2),))
        crew = tuple([(Machine("m" + str(at), core, marks=("big",) if at == 2 else (), rack="xyyx"[at]), core)
                      for at in range(4)])
        groups = ((1, ("mark", "big"), core), (2, ("all",), Amounts()))
        self.assertEqual([fitting(groups, crew), best_choice(groups, crew)], [((2,), (0, 1, 2, 3)), ((2,), (0, 1))])
        self.assertEqual([best_choice(((2, ("all",), core),), crew), short_set(((2, ("mark", "big"), core),), crew),
                          is_short_set(groups, crew, (0, 1))], [((0, 3),), (0,), False])

    def test_jobs(self):
        sim = Job("sim", account="physics", person="ada", doors=("fast", "slow"),
                  groups=((2, ("mark", "gpu"), Amounts((("core", 4),))), (1, ("all",), Amounts((("mem", 10),)))), limit=3600)
        self.assertEqual([str(sim), sim.machines, sim.size, str(sim.total), sim.grade, sim.after, sim.changed(grade=3) == sim,
                          str(sim.changed(limit=60, tokens=Amounts((("lic", 1),))).total)],
                         ["job sim of 3 machines for 01:00:00", 3, 18, "core 8, mem 10", 0, None, False, "core 8, lic 1, mem 10"])
        text = ("# a test\nlimit 60 # minutes\nname sim\naccount physics\n  person ada\ndoors fast,slow\n"
                "group 2:gpu:core 4\ngroup 1 : all : mem 10\n")
        self.assertEqual([read_job(text) == sim, write_job(sim).splitlines()[3:6], read_job(write_job(sim)) == sim],
                         [True, ["doors fast, slow", "group 2 : gpu : core 4", "group 1 : all : mem 10"], True])

    def test_formulas_over_ends(self):
        f = read_after("well(1) & (ill(1) | over(2))")
        self.assertEqual([f, write_after(f), jobs_named(f)],
                         [("and", (("well", 1), ("or", (("ill", 1), ("over", 2))))), "well(1) & (ill(1) | over(2))", (1, 2)])
        self.assertEqual([true_now(f, {1: "well", 2: "begun"}), may_come(f, {1: "begun", 2: "waiting"}),
                          may_come(f, {1: "ill", 2: "well"}), sure(f, {1: "well", 2: "begun"})], [False, True, False, True])
        both = ("and", (("well", 1), ("ill", 1)))
        self.assertEqual([may_come(both, {1: "begun"}), lost_tree(both, {1: "begun"})],
                         [False, ("split", 1, (("well", ("lost",)), ("ill", ("lost",)), ("late", ("lost",)), ("gone", ("lost",))))])
        self.assertEqual(parting_row(("over", 1), ("or", (("begun", 1), ("left", 1)))), ((1, 1),))

    def test_rows(self):
        row = Row(7, (1, 2, 3, 5, 9), at_once=2)
        self.assertEqual([row.numbers, row.kind, str(row.amounts), row.number_of(5), row.index_of(11), row.part_name(9)],
                         [(7, 8, 9, 10, 11), "r7", "r7 2", 10, 9, "7.3"])
        self.assertEqual([fold_indices((1, 2, 3, 5, 9)), fold_indices((4, 5)), fold_indices((0, 4, 8, 12, 16)),
                          unfold_indices("3,1-9:4,1")], ["1-3,5,9", "4,5", "0-16:4", (1, 3, 5, 9)])
        self.assertEqual(fold_states((row,), {4: "told", 7: "runs", 8: "runs", 9: "waits", 11: "waits"}),
                         ("4 told", "7.[1,2] runs", "7.[3,9] waits"))

    def test_stuck_sets(self):
        self.assertEqual(stuck_set({3: ("over", 4), 4: ("or", (("over", 3), ("well", 5))), 5: None, 6: ("left", 6)}, {}), (6,))

    def test_accounts(self):
        plain = Accounts((("lab", "", 3), ("team", "lab", 1), ("solo", "lab", 1), ("web", "", 1)))
        accounts = plain.with_use("web", 0, 4).with_use("team", 5, 8)
        self.assertEqual([plain.fair_order(0), plain.fraction_of("team"), plain.children_of(""), plain.newest, str(plain)],
                         [("lab", "solo", "team", "web"), (3, 8), ("lab", "web"), -1, "accounts 4, levels 2"])
        self.assertEqual([accounts.fair_order(5), accounts.turns(5), accounts.use_of("lab", 65), accounts.use_of("lab", 66),
                          accounts.use_of("web", 57)],
                         [("web", "lab", "solo", "team"), ((66, ("lab", "solo", "team", "web")),), 8, 0, 32])

    def test_scores(self):
        weights, order = Weights(cap=10, grade=1, place=5), ("web", "lab")
        entries = ((1, 0, 0, 0, "lab"), (2, 5, 0, 4, "lab"))
        self.assertEqual([score(weights, entries[0], 6, order), score(weights, entries[1], 6, order),
                          ranked(weights, entries, 6, order)], [11, 10, (1, 2)])
        flat = Accounts((("web", "", 1), ("lab", "", 1)))
        self.assertEqual(order_turns(weights, entries, flat, 6, 100), ((12, (2, 1)),))
        mixed, used = ((1, 0, 0, 0, "lab"), (2, 0, 0, 3, "web")), flat.with_use("lab", 0, 1)
        self.assertEqual([ranked(weights, mixed, 6, used.fair_order(0)), order_turns(weights, mixed, used, 6, 100)],
                         [(2, 1), ((6100, (1, 2)),)])
