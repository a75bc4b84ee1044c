"""The examples of the document, and the names and places of its interface."""

import importlib
import inspect

from toldstarts.base.amounts import Amounts
from toldstarts.base.ticks import text_of_ticks, ticks_of
from toldstarts.errors import Lacking, ParseError, Refused
from toldstarts.house.choices import best_choice, fitting, is_short_set, short_set
from toldstarts.house.formulas import plain_form, read_formula, write_formula
from toldstarts.house.machines import Machine, fold_names, unfold_names
from toldstarts.jobs.jobs import Job
from toldstarts.jobs.likes import Row, fold_indices, fold_states, unfold_indices
from toldstarts.jobs.reader import read_job, write_job
from toldstarts.plan.limits import Doors, Limits, broken_limits, least_broken
from toldstarts.plan.places import Yard, earliest_place, is_place_bars
from toldstarts.plan.taking import candidates, ending_sets, is_taking_paper, least_taken, taking_cost
from toldstarts.plan.told import Board, starts_of
from toldstarts.rank.accounts import Accounts
from toldstarts.rank.scores import Weights, order_turns, ranked, score
from toldstarts.room.rooms import Room
from toldstarts.sure.lineups import Lineup, bound_table, is_lengths_to, is_puts_off, latest_starts, puts_off, starts_by
from toldstarts.wait.formulas import jobs_named, lost_tree, may_come, parting_row, read_after, sure, true_now, write_after
from toldstarts.wait.stuck import stuck_set
from toldstarts.work.desk import Desk
from toldstarts.work.house import House
from toldstarts.work.log import Log, write_log
from helper import Case

# For each module its functions with their parameters, and its classes with the methods that the document lists.
FUNCTIONS = {
    "toldstarts.base.ticks": ("is_tick(value)", "text_of_ticks(number)", "ticks_of(text)"),
    "toldstarts.house.machines": (
        "is_machine_name(value)", "sorted_names(names)", "fold_names(names)", "unfold_names(text)"),
    "toldstarts.house.formulas": (
        "is_formula(value)", "marks_in(f)", "read_formula(text)", "write_formula(f)", "holds(f, marks)",
        "parting(f, g, marks)", "plain_form(f, marks)", "is_plain_form(f, marks, value)"),
    "toldstarts.house.choices": (
        "fitting(groups, crew)", "best_choice(groups, crew)", "is_choice(groups, crew, value)",
        "choice_key(groups, crew, choice)", "short_set(groups, crew)", "is_short_set(groups, crew, value)"),
    "toldstarts.jobs.reader": ("read_job(text)", "write_job(job)"),
    "toldstarts.jobs.likes": (
        "fold_indices(indices)", "unfold_indices(text)", "fold_states(rows, states)", "unfold_states(rows, lines)"),
    "toldstarts.rank.scores": (
        "score(weights, entry, tick, order)", "ranked(weights, entries, tick, order)",
        "order_turns(weights, entries, accounts, tick, length)",
        "is_order_turns(weights, entries, accounts, tick, length, value)"),
    "toldstarts.plan.limits": (
        "broken_limits(limits, room, job, door, tick)", "least_broken(limits, doors, room, job, tick)",
        "is_least_broken(limits, doors, room, job, tick, value)"),
    "toldstarts.plan.places": (
        "earliest_place(yard, ask, length, since)", "place_bars(yard, ask, length, since)", "is_place(yard, ask, length, value)",
        "is_place_bars(yard, ask, length, since, value)"),
    "toldstarts.plan.told": ("starts_of(yard, waiting, *, depth=5, fill=False)",),
    "toldstarts.sure.lineups": (
        "starts_by(lineup, lengths)", "latest_starts(lineup)", "lengths_to(lineup, key)", "is_lengths_to(lineup, key, value)",
        "bound_table(lineup)", "is_bound_table(lineup, value)", "puts_off(lineup)", "is_puts_off(lineup, value)"),
    "toldstarts.plan.taking": (
        "taking_cost(yard, tick, key)", "candidates(yard, tick, runs, grade)", "least_taken(yard, ask, length, tick, runs, grade)",
        "taking_paper(yard, ask, length, tick, runs, grade)", "is_taking_paper(yard, ask, length, tick, runs, grade, value)",
        "ending_sets(yard, ask, length, tick, runs)", "is_ending_sets(yard, ask, length, tick, runs, value)"),
    "toldstarts.work.log": ("write_log(log)", "read_log(text)"),
    "toldstarts.wait.stuck": ("stuck_set(wishes, known)", "is_stuck_set(wishes, known, value)"),
    "toldstarts.wait.fates": ("is_state(value)", "ends_of(state)", "atoms_of(state)", "may_follow(one, other)"),
    "toldstarts.wait.formulas": (
        "is_after_formula(value)", "jobs_named(f)", "read_after(text)", "write_after(f)", "true_now(f, known)",
        "may_come(f, known, *, held=())", "sure(f, known)", "parting_row(f, g)", "lost_tree(f, known, *, held=())",
        "is_lost_tree(f, known, value, *, held=())"),
}
# What has more than one class of the document.
MORE_CLASSES = (
    ("toldstarts.plan.limits", "Limits", "(accounts, rows=())", (
        "accounts", "rows", "amounts", "need", "covering", "beyond", "house_amounts", "ask", "__len__", "__eq__", "__str__")),
)
CLASSES = {
    "toldstarts.plan.limits": ("Doors", "(rows)", (
        "names", "longest", "usable", "__len__", "__contains__", "__iter__", "__eq__", "__str__")),
    "toldstarts.plan.places": ("Yard", "(machines, amounts=None, *, period=1)", (
        "machines", "amounts", "period", "head", "shut_spans", "windows", "places", "with_place", "without_place", "with_shut",
        "without_shut", "with_window", "without_window", "free", "house_room", "with_more", "__contains__", "__len__",
        "__iter__", "__eq__", "__str__")),
    "toldstarts.plan.told": ("Board", "(yard, *, depth=5, fill=False)", (
        "yard", "now", "depth", "fill", "runs", "told", "starts", "is_settled", "next_tick", "settle", "end", "leave", "shut",
        "lift", "fail", "mend", "raised", "begin", "earlier", "bars", "more", "twin", "__contains__", "__len__", "__eq__",
        "__str__")),
    "toldstarts.sure.lineups": ("Lineup", "(yard, jobs, *, depth=5, fill=False)", (
        "yard", "jobs", "depth", "fill", "stand", "next_stand", "__len__", "__eq__", "__str__")),
    "toldstarts.work.house": (
        "House", "(machines, tokens, doors, limits, weights, depth=5, fill=False, period=100, windows=())", (
            "do", "setting", "twin", "now", "deeds", "runs", "untold", "held", "told", "told_starts", "is_settled", "yard",
            "rows", "accounts", "row", "job", "state", "stands", "lines", "later_rows", "earlier", "bars", "why",
            "__contains__", "__len__", "__eq__", "__str__")),
    "toldstarts.work.log": ("Log", "(setting, deeds=())", (
        "setting", "deeds", "events", "house", "with_deed", "until", "edited", "history", "__len__", "__iter__", "__eq__",
        "__str__")),
    "toldstarts.work.desk": ("Desk", "(log)", (
        "do", "edit", "demand", "waive", "undo", "redo", "trial", "during", "twin", "house", "log", "pledges", "__contains__",
        "__len__", "__eq__", "__str__")),
    "toldstarts.base.amounts": ("Amounts", "(pairs=())", (
        "of_text", "cover_of", "pairs", "kinds", "covers", "lacks", "times", "__getitem__", "__add__", "__sub__",
        "__mul__", "__contains__", "__len__", "__bool__", "__iter__", "__eq__", "__str__")),
    "toldstarts.room.rooms": ("Room", "(amounts, *, period=1)", (
        "amounts", "period", "head", "claims", "windows", "with_claim", "with_window", "without_claim",
        "without_window", "free", "least", "area_of", "steps", "fits", "earliest", "bars", "is_bars", "__len__",
        "__eq__", "__str__")),
    "toldstarts.house.machines": ("Machine", "(name, amounts, *, marks=(), rack='main')", (
        "name", "amounts", "marks", "rack", "__eq__", "__str__")),
    "toldstarts.jobs.jobs": (
        "Job", "(name, *, account, person, doors, groups, tokens=None, limit, grade=0, after=None)", (
            "name", "account", "person", "doors", "groups", "tokens", "limit", "grade", "after", "machines", "size", "total",
            "changed", "__eq__", "__str__")),
    "toldstarts.jobs.likes": ("Row", "(first, indices, *, at_once=None)", (
        "first", "indices", "at_once", "numbers", "kind", "amounts", "number_of", "index_of", "part_name", "part",
        "__contains__", "__len__", "__iter__", "__eq__", "__str__")),
    "toldstarts.rank.accounts": ("Accounts", "(rows)", (
        "with_use", "use_of", "fraction_of", "fair_order", "turns", "parent_of", "share_of", "line", "children_of", "names",
        "newest", "levels", "__len__", "__contains__", "__iter__", "__eq__", "__str__")),
    "toldstarts.rank.scores": ("Weights", "(*, age=1, cap=10000, size=0, grade=0, place=0)", (
        "age", "cap", "size", "grade", "place", "changed", "__eq__", "__str__")),
}


class Interface(Case):
    def test_functions(self):
        for module, headings in FUNCTIONS.items():
            for heading in headings:
                function = getattr(importlib.import_module(module), heading.partition("(")[0])
                self.assertEqual(function.__name__ + str(inspect.signature(function)), heading)
                self.assertEqual(function.__module__, module)

    def test_classes(self):
        for module, name, signature, methods in MORE_CLASSES + tuple([(module, *rest) for module, rest in CLASSES.items()]):
            made = getattr(importlib.import_module(module), name)
            self.assertEqual(made.__module__, module)
            self.assertEqual(str(inspect.signature(made)), signature)
            self.assertEqual([method for method in methods if method not in made.__dict__], [])


class Examples(Case):
    def test_ticks(self):
        self.assertEqual([text_of_ticks(0), text_of_ticks(93784), text_of_ticks(1000000), ticks_of("90"),
                          ticks_of("1:05"), ticks_of("2-3")],
                         ["00:00:00", "1-02:03:04", "11-13:46:40", 5400, 65, 183600])
        self.refused(ParseError, ticks_of, "1:60")

    def test_amounts(self):
        have, want = Amounts((("core", 8), ("mem", 100))), Amounts.of_text(" mem 30,core 2 ")
        self.assertEqual([str(want), have.times(want), str(have - want), str(want.lacks(have)), str(want * 0),
                          have["core"], have["gpu"], "mem" in have],
                         ["core 2, mem 30", 3, "core 6, mem 70", "core 6, mem 70", "nothing", 8, 0, True])
        self.assertEqual([str(Amounts.cover_of(want, Amounts((("core", 5),)))), have.covers(want), len(have),
                          bool(Amounts()), list(want)],
                         ["core 5, mem 30", True, 2, False, [("core", 2), ("mem", 30)]])
        self.refused(Lacking, lambda: want - have)

    def test_rooms(self):
        two, three, four = Amounts((("core", 2),)), Amounts((("core", 3),)), Amounts((("core", 4),))
        room = Room(four, period=10).with_claim((0, 5, three)).with_window((8, 2, four))
        self.assertEqual([room.head, room.earliest(two, 3, 0), room.earliest(two, 4, 0), room.earliest(two, 9, 0)],
                         [8, 5, 10, None])
        self.assertEqual([[tick for tick, some in room.steps(0, 20)], room.area_of("core", 0, 10), str(room)],
                         [[0, 5, 8, 10, 18], 17, "room with 1 claims, 1 windows"])
        paper = ((0, 5, ("short", "core", 0, 4)), (5, 10, ("short", "core", 8, 9)))
        self.assertEqual([room.is_bars(two, 4, 0, 10, paper), room.is_bars(two, 4, 0, 5, paper[:1])], [True, True])

    def test_machines(self):
        self.assertEqual([fold_names(("m10", "m9", "m", "m1", "gpu3", "m2")), unfold_names("b,m[3,1-2],m2")],
                         ["gpu3,m,m[1-2,9-10]", ("b", "m1", "m2", "m3")])
        self.assertEqual(str(Machine("m17", Amounts())), "m17 in main")

    def test_formulas(self):
        a, b, c = ("mark", "a"), ("mark", "b"), ("mark", "c")
        self.assertEqual(
            [read_formula(" a&b | !(c|a) "), write_formula(("and", (("or", (a, b)), ("not", ("not", c)), ("all",))))],
            [("or", (("and", (("mark", "a"), ("mark", "b"))), ("not", ("or", (("mark", "c"), ("mark", "a")))))),
             "(a | b) & !!c & all"])
        self.assertEqual(plain_form(("or", (("and", (a, b)), ("and", (("not", a), c)))), ("a", "b", "c")),
                         ((("a", "b"), ()), (("b", "c"), ()), (("c",), ("a",))))

    def test_choices(self):
        core = Amounts((("core", 2),))
        crew = tuple([(Machine("m" + str(at), core, marks=("big",) if at == 2 else (), rack="xyyx"[at]), core)
                      for at in range(4)])
        groups = ((1, ("mark", "big"), core), (2, ("all",), Amounts()))
        self.assertEqual([fitting(groups, crew), best_choice(groups, crew)], [((2,), (0, 1, 2, 3)), ((2,), (0, 1))])
        self.assertEqual([best_choice(((2, ("all",), core),), crew), short_set(((2, ("mark", "big"), core),), crew),
                          is_short_set(groups, crew, (0, 1))], [((0, 3),), (0,), False])

    def test_jobs(self):
        sim = Job("sim", account="physics", person="ada", doors=("fast", "slow"),
                  groups=((2, ("mark", "gpu"), Amounts((("core", 4),))), (1, ("all",), Amounts((("mem", 10),)))), limit=3600)
        self.assertEqual([str(sim), sim.machines, sim.size, str(sim.total), sim.grade, sim.after, sim.changed(grade=3) == sim,
                          str(sim.changed(limit=60, tokens=Amounts((("lic", 1),))).total)],
                         ["job sim of 3 machines for 01:00:00", 3, 18, "core 8, mem 10", 0, None, False, "core 8, lic 1, mem 10"])
        text = ("# a test\nlimit 60 # minutes\nname sim\naccount physics\n  person ada\ndoors fast,slow\n"
                "group 2:gpu:core 4\ngroup 1 : all : mem 10\n")
        self.assertEqual([read_job(text) == sim, write_job(sim).splitlines()[3:6], read_job(write_job(sim)) == sim],
                         [True, ["doors fast, slow", "group 2 : gpu : core 4", "group 1 : all : mem 10"], True])

    def test_formulas_over_ends(self):
        f = read_after("well(1) & (ill(1) | over(2))")
        self.assertEqual([f, write_after(f), jobs_named(f)],
                         [("and", (("well", 1), ("or", (("ill", 1), ("over", 2))))), "well(1) & (ill(1) | over(2))", (1, 2)])
        self.assertEqual([true_now(f, {1: "well", 2: "begun"}), may_come(f, {1: "begun", 2: "waiting"}),
                          may_come(f, {1: "ill", 2: "well"}), sure(f, {1: "well", 2: "begun"})], [False, True, False, True])
        both = ("and", (("well", 1), ("ill", 1)))
        self.assertEqual([may_come(both, {1: "begun"}), lost_tree(both, {1: "begun"})],
                         [False, ("split", 1, (("well", ("lost",)), ("ill", ("lost",)), ("late", ("lost",)), ("gone", ("lost",))))])
        self.assertEqual(parting_row(("over", 1), ("or", (("begun", 1), ("left", 1)))), ((1, 1),))

    def test_rows(self):
        row = Row(7, (1, 2, 3, 5, 9), at_once=2)
        self.assertEqual([row.numbers, row.kind, str(row.amounts), row.number_of(5), row.index_of(11), row.part_name(9)],
                         [(7, 8, 9, 10, 11), "r7", "r7 2", 10, 9, "7.3"])
        self.assertEqual([fold_indices((1, 2, 3, 5, 9)), fold_indices((4, 5)), fold_indices((0, 4, 8, 12, 16)),
                          unfold_indices("3,1-9:4,1")], ["1-3,5,9", "4,5", "0-16:4", (1, 3, 5, 9)])
        self.assertEqual(fold_states((row,), {4: "told", 7: "runs", 8: "runs", 9: "waits", 11: "waits"}),
                         ("4 told", "7.[1,2] runs", "7.[3,9] waits"))

    def test_stuck_sets(self):
        self.assertEqual(stuck_set({3: ("over", 4), 4: ("or", (("over", 3), ("well", 5))), 5: None, 6: ("left", 6)}, {}), (6,))

    def test_accounts(self):
        plain = Accounts((("lab", "", 3), ("team", "lab", 1), ("solo", "lab", 1), ("web", "", 1)))
        accounts = plain.with_use("web", 0, 4).with_use("team", 5, 8)
        self.assertEqual([plain.fair_order(0), plain.fraction_of("team"), plain.children_of(""), plain.newest, str(plain)],
                         [("lab", "solo", "team", "web"), (3, 8), ("lab", "web"), -1, "accounts 4, levels 2"])
        self.assertEqual([accounts.fair_order(5), accounts.turns(5), accounts.use_of("lab", 65), accounts.use_of("lab", 66),
                          accounts.use_of("web", 57)],
                         [("web", "lab", "solo", "team"), ((66, ("lab", "solo", "team", "web")),), 8, 0, 32])

    def test_scores(self):
        weights, order = Weights(cap=10, grade=1, place=5), ("web", "lab")
        entries = ((1, 0, 0, 0, "lab"), (2, 5, 0, 4, "lab"))
        self.assertEqual([score(weights, entries[0], 6, order), score(weights, entries[1], 6, order),
                          ranked(weights, entries, 6, order)], [11, 10, (1, 2)])
        flat = Accounts((("web", "", 1), ("lab", "", 1)))
        self.assertEqual(order_turns(weights, entries, flat, 6, 100), ((12, (2, 1)),))
        mixed, used = ((1, 0, 0, 0, "lab"), (2, 0, 0, 3, "web")), flat.with_use("lab", 0, 1)
        self.assertEqual([ranked(weights, mixed, 6, used.fair_order(0)), order_turns(weights, mixed, used, 6, 100)],
                         [(2, 1), ((6100, (1, 2)),)])

    def test_limits(self):
        accounts = Accounts((("lab", "", 1), ("team", "lab", 1)))
        rows = ((("account", "lab"), "core", 12), (("door", "day"), "jobs", 1), (("door", "night"), "core", 8), (("person", "ada"), "gpu", 2))
        limits, doors = Limits(accounts, rows), Doors((("day", 100), ("night", 500), ("week", 5000)))
        job = Job("sim", account="team", person="ada", doors=("day", "night"), groups=((2, ("all",), Amounts((("core", 4),))),), limit=60)
        self.assertEqual([doors.usable(job), limits.covering(job, "day"), str(limits.house_amounts(job, "night"))], [("day", "night"), (0, 1), "l1 8, l3 8"])
        room = Room(limits.amounts).with_claim((0, 50, Amounts((("l1", 2), ("l2", 1))))).with_claim((20, 80, Amounts((("l1", 2), ("l3", 1)))))
        self.assertEqual([broken_limits(limits, room, job, "day", 0), broken_limits(limits, room, job, "night", 0)], [((1, 0),), ((2, 20),)])
        self.assertEqual([least_broken(limits, doors, room, job, 0), least_broken(limits, doors, room, job, 50)], [(((1,), "day"), ((2,), "night")), (((), "day"),)])

    def test_yards_and_boards(self):
        cores, every = Amounts((("core", 2),)), ("all",)
        yard = Yard((Machine("a", Amounts((("core", 4),))), Machine("b", cores)), period=10)
        both, one = ((((2, every, cores),), Amounts()),), ((((1, every, cores),), Amounts()),)
        first = yard.with_place(7, earliest_place(yard, both, 5, 0), 5, both)
        self.assertEqual([first.places[7][0], earliest_place(first, both, 5, 0), earliest_place(first, one, 5, 0), first.head],
                         [(0, 0, ((0, 1),)), (5, 0, ((0, 1),)), (0, 0, ((0,),)), 5])
        bars = ((0, 5, (("groups", (0,), ((1, 0, 0, 4, "core"),)),)),)
        self.assertEqual([is_place_bars(first, both, 5, 0, bars), is_place_bars(first, both, 5, 0, ())], [True, False])
        shut = yard.with_window(1, 8, 2)
        self.assertEqual([earliest_place(shut, both, 5, 4), earliest_place(shut, both, 9, 0), shut.free(1, 0, 9)], [(10, 0, ((0, 1),)), None, None])
        board = Board(yard, depth=2)
        self.assertEqual(board.settle(0, ((1, both, 5), (2, both, 4), (3, one, 3))),
                         (("told", 1, 0), ("told", 2, 5), ("began", 1, (0, 0, ((0, 1),))), ("told", 3, 0), ("began", 3, (0, 0, ((0,),)))))
        self.assertEqual([board.runs, board.starts, board.next_tick, board.earlier(2)], [(1, 3), {2: 5}, 3, None])
        self.assertEqual([board.settle(3, ()), board.end(1), board.settle(3, ()), board.runs],
                         [(("ended", 3),), None, (("drawn", 2, 5, 3), ("began", 2, (3, 0, ((0, 1),)))), (2,)])
        row = ((1, both, 5), (2, both, 4), (3, one, 9))
        self.assertEqual([starts_of(yard, row, depth=1), starts_of(yard, row, depth=1, fill=True)], [{1: 0, 2: 5, 3: 5}, {1: 0, 2: 5, 3: 0}])

    def test_lineups(self):
        one, two, every = Amounts((("core", 1),)), Amounts((("core", 2),)), ("all",)
        half, full = ((((1, every, one),), Amounts()),), ((((1, every, two),), Amounts()),)
        jobs, pair = ((1, half, 4), (2, half, 3), (3, full, 4), (4, half, 1)), Yard((Machine("m", two),))
        order, first, deep = Lineup(pair, jobs, depth=1), Lineup(pair, jobs, depth=1, fill=True), Lineup(pair, jobs)
        self.assertEqual([latest_starts(order), latest_starts(first), latest_starts(deep)], [{1: 0, 2: 0, 3: 4, 4: 8}, {1: 0, 2: 0, 3: 4, 4: 6}, {1: 0, 2: 0, 3: 4, 4: 3}])
        self.assertEqual([starts_by(first, (4, 2, 4, 1)), starts_by(first, (2, 2, 4, 1)), is_puts_off(first, ((4, 2, 4, 1), (2, 2, 4, 1))), puts_off(deep)],
                         [{1: 0, 2: 0, 3: 4, 4: 2}, {1: 0, 2: 0, 3: 2, 4: 6}, True, None])
        self.assertEqual(first.next_stand(first.stand, (2,)), (((1, 1, 0, ((0,),)), (4, 0, 0, ((0,),))), ((3, 3, 0, ((0,),)),), ()))
        self.assertEqual([is_lengths_to(first, 4, (4, 2, 4, 1)), bound_table(deep)[deep.stand]], [False, ((3, 4), (4, 3))])

    def test_giving_way(self):
        cores, every = Amounts((("core", 2),)), ("all",)
        both, one, four = ((((2, every, cores),), Amounts()),), ((((1, every, cores),), Amounts()),), ((((1, every, cores * 2),), Amounts()),)
        yard = Yard((Machine("a", cores * 2), Machine("b", cores)), period=10)
        yard = yard.with_place(1, (0, 0, ((0,),)), 8, one).with_place(2, (1, 0, ((1,),)), 5, one)
        runs = ((1, 0), (2, 1))
        self.assertEqual([taking_cost(yard, 3, 1), taking_cost(yard, 3, 2), candidates(yard, 3, runs, 1)], [4, 3, (1,)])
        self.assertEqual([least_taken(yard, both, 5, 3, runs, 2), least_taken(yard, both, 5, 3, runs, 1), least_taken(yard, four, 5, 3, runs, 2)], [(2,), None, (1,)])
        bars = ((3, 6, (("groups", (0,), ((1, 0, 3, 5, "core"),)),)),)
        self.assertEqual([is_taking_paper(yard, both, 5, 3, runs, 1, (None, (((1,), bars),))), is_taking_paper(yard, both, 5, 3, runs, 2, ((2,), (((), bars),))),
                          is_taking_paper(yard, both, 5, 3, runs, 2, ((1, 2), (((1,), bars),)))], [True, True, False])
        self.assertEqual([ending_sets(yard, both, 5, 3, runs), ending_sets(yard, four, 5, 3, runs), ending_sets(yard, one, 5, 3, runs)], [((2,),), ((1,),), ((),)])

    def test_houses_logs_and_desks(self):
        amount, accounts = Amounts((("core", 4),)), Accounts((("lab", "", 1),))
        house = House((Machine("a", amount),), Amounts(), Doors((("day", 100),)), Limits(accounts), Weights(), 2)
        big = Job("big", account="lab", person="ada", doors=("day",), groups=((1, ("all",), amount),), limit=5)
        self.assertEqual(house.do(("come", big)), ((0, "came", 1), (0, "told", 1, 0), (0, "began", 1, (0, 0, ((0,),)))))
        self.assertEqual([house.do(("come", big)), house.do(("come", big.changed(limit=3))), house.do(("come", big)), house.row()],
                         [((0, "came", 2), (0, "told", 2, 5)), ((0, "came", 3), (0, "told", 3, 10)), ((0, "came", 4),), (4,)])
        self.assertEqual([house.do(("wait", 2)), house.do(("end", 1, "well"))],
                         [(), ((2, "ended", 1, "well"), (2, "drawn", 2, 5, 2), (2, "drawn", 3, 10, 7), (2, "began", 2, (2, 0, ((0,),))), (2, "told", 4, 10))])
        self.assertEqual([house.told_starts, house.accounts.use_of("lab", 0) == 8 * 2 ** 60, str(house)], [{3: 7, 4: 10}, True, "house at 2, 1 runs, 2 told, 0 untold"])
        self.assertEqual(house.do(("hold", 3)), ((2, "put off", 3, 7, None, 7), (2, "drawn", 4, 10, 7)))
        setting = ((Machine("a", amount),), Amounts(), Doors((("day", 100),)), Limits(accounts), Weights(), 2, False, 100, ())
        log = Log(setting, (("come", big), ("come", big), ("wait", 2), ("end", 1, "well")))
        self.assertEqual(write_log(log).splitlines()[:9],
                         ["machine a main - core 4", "tokens nothing", "door day 100", "account lab - 1", "weights 1 10000 0 0 0", "depth 2", "fill no", "period 100", "come"])
        desk = Desk(log.until(2))
        self.assertEqual([desk.demand(("start", 2, 5)), desk.do(("wait", 2)), str(desk)], [None, (), "desk of 3 deeds, 1 pledges"])
        self.refused(Refused, desk.edit, 0, 0, (("wait", 1),))
        self.assertEqual([desk.edit(2, 1, (("wait", 1), ("wait", 1))), desk.house().now, desk.undo(many=2), desk.pledges, desk.redo(), desk.redo()],
                         [3, 2, 2, (("start", 2, 5),), 3, 4])
