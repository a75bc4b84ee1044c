"""A plain house: it does what stage 15 says, deed by deed and tick by tick, with a plain board."""

import itertools

from toldstarts.base.amounts import Amounts
from toldstarts.errors import InvalidJob, Refused, TooMany, UnknownName
from toldstarts.house.machines import Machine
from toldstarts.jobs.jobs import Job
from toldstarts.jobs.likes import Row
from toldstarts.plan.limits import Doors, Limits
from toldstarts.plan.places import Yard, earliest_place
from toldstarts.rank.accounts import Accounts
from toldstarts.rank.scores import Weights, ranked
from toldstarts.wait.formulas import jobs_named, true_now
from boards import PlainBoard
from helper import some
from yards import ALL, BIG, NOTHING, all_places_at

ENDS = ("left", "well", "ill", "late", "gone")


class PlainHouse:
    def __init__(self, machines, tokens, doors, limits, weights, depth=5, fill=False, period=100, windows=()):
        self.names = [machine.name for machine in machines]
        self.doors, self.limits, self.weights, self.period = doors, limits, weights, period
        yard = Yard(machines, tokens + limits.amounts, period=period)
        for name, begin, length in windows:
            yard = yard.with_window(self.names.index(name), begin, length)
        self.first, self.board = yard, PlainBoard(yard, depth, fill)
        self.jobs, self.came, self.state, self.held, self.rows, self.deeds = {}, {}, {}, set(), (), 0
        self.accounts = limits.accounts

    def copied(self):
        made = PlainHouse.__new__(PlainHouse)
        made.__dict__.update(self.__dict__)
        made.board, made.jobs, made.came, made.state = self.board.twin(), dict(self.jobs), dict(self.came), dict(self.state)
        made.held = set(self.held)
        return made

    def stands(self, number):
        if self.state[number] in ENDS:
            return "over"
        return "runs" if number in self.board.runs else "told" if number in self.board.told else "untold"

    def known(self, formula):
        return {number: self.state.get(number, "waiting") for number in jobs_named(formula)}

    def ready(self, number):
        after = self.jobs[number].after
        return self.stands(number) == "untold" and number not in self.held and (after is None or true_now(after, self.known(after)))

    def row(self):
        now = self.board.now
        entries = tuple([(number, self.came[number], job.size, job.grade, job.account) for number, job in self.jobs.items()
                         if self.ready(number)])
        return ranked(self.weights, entries, now, self.accounts.fair_order(now // self.period))

    def ask(self, number):
        return self.limits.ask(self.doors, self.jobs[number])

    def waiting(self, number):
        return (number, self.ask(number), self.jobs[number].limit)

    def settle(self):
        found = self.board_events(())
        while True:
            events = self.board_events([self.waiting(number) for number in self.row()])
            if not events:
                return found
            found += events

    def board_events(self, rows):
        found, now = [], self.board.now
        for word, number, *rest in self.board.settle(now, rows):
            if word == "ended":
                self.state[number] = "late"
                rest = ["late"]
            if word == "began":
                self.state[number] = "begun"
            if word != "never":
                found.append((now, word, number, *rest))
        return found

    def pass_tick(self):
        """The runs use the present tick, and the next one comes."""
        for number in self.board.runs:
            job = self.jobs[number]
            self.accounts = self.accounts.with_use(job.account, self.board.now // self.period, job.size)
        self.board.now += 1

    def is_settling_tick(self):
        now, yard = self.board.now, self.board.yard
        ends = [self.board.end_of(key) for key in self.board.runs] + [end for _, _, end in yard.shut_spans]
        ends += [self.board.start(key) for key in self.board.told]
        turns = [(now - begin - length) % yard.period == 0 and now >= begin + length for _, begin, length in yard.windows]
        return now in ends or any(turns)

    def do(self, deed):
        """The events of a deed that is accepted; what was there before is lost."""
        word, *rest = deed
        now, told = self.board.now, [(key, self.board.start(key)) for key in self.board.told]
        self.deeds += 1
        if word == "wait":
            return self.wait(rest[0])
        found = getattr(self, "do_" + word)(*rest)
        for key, old in told:
            if word == "raise" and key == rest[0]:
                continue
            stands = self.stands(key)
            if stands == "untold":
                found.append((now, "put off", key, old, None, self.deeds))
            elif stands == "told" and self.board.start(key) > old:
                found.append((now, "put off", key, old, self.board.start(key), self.deeds))
            elif stands == "told" and self.board.start(key) < old:
                found.append((now, "drawn", key, old, self.board.start(key)))
        return tuple(found + self.settle())

    def wait(self, ticks):
        found, last, many = [], self.board.now + ticks, 0
        while self.board.now < last:
            self.pass_tick()
            if self.board.now == last or self.is_settling_tick():
                found += self.settle()
                many += 1
        self.settlings = many
        return tuple(found)

    def do_come(self, job):
        number = len(self.jobs) + 1
        self.jobs[number], self.came[number], self.state[number] = job, self.board.now, "waiting"
        return [(self.board.now, "came", number)]

    def do_row(self, job, indices, once):
        row = Row(len(self.jobs) + 1, indices, at_once=once)
        self.rows += (row,)
        self.board.yard = self.board.yard.with_more(row.amounts)
        return [event for _ in row for event in self.do_come(row.part(job))]

    def over(self, number, state):
        if number in self.board.runs:
            self.board.end(number)
        if number in self.board.told:
            self.board.leave(number)
        self.state[number] = state
        self.held.discard(number)
        return [(self.board.now, "ended", number, state)]

    def do_end(self, number, state):
        return self.over(number, state)

    def do_leave(self, number):
        return self.over(number, "left" if self.state[number] == "waiting" else "gone")

    def do_hold(self, number):
        if number in self.board.told:
            self.board.leave(number)
        self.held.add(number)
        return []

    def do_let(self, number):
        self.held.remove(number)
        return []

    def do_raise(self, number):
        self.board.raised(*self.waiting(number))
        return [(self.board.now, "told", number, self.board.start(number))]

    def least_set(self, number):
        """The least set of runs that lets a job start now, by trying all of them."""
        yard, now, ask, job = self.board.yard, self.board.now, self.ask(number), self.jobs[number]
        if number in self.board.told:
            yard = yard.without_place(number)
        costs = {key: (now - place[0] + 1) * sum([len(row) for row in place[2]]) for key, (place, _, _) in yard.places.items()}
        runs = sorted([(self.jobs[key].grade, costs[key], key) for key in self.board.runs if self.jobs[key].grade < job.grade])[:10]
        keys = sorted([key for _, _, key in runs])
        sets = [keys_out for size in range(len(keys) + 1) for keys_out in itertools.combinations(keys, size)]
        for _, _, keys_out in sorted([(sum([costs[key] for key in one]), len(one), one) for one in sets]):
            less = yard
            for key in keys_out:
                less = less.without_place(key)
            if all_places_at(less, ask, job.limit, now):
                return keys_out
        return None

    def do_take(self, number):
        found = self.back(self.least_set(number))
        place = self.board.begin(*self.waiting(number))
        self.state[number] = "begun"
        return found + [(self.board.now, "began", number, place)]

    def back(self, numbers):
        for number in numbers:
            if number in self.board.runs:
                self.board.end(number)
        return [(self.board.now, "back", number) for number in numbers]

    def do_fail(self, name):
        gone, _ = self.board.fail(self.names.index(name))
        return self.back(gone)

    def do_mend(self, name):
        self.board.mend(self.names.index(name))
        return []

    def do_shut(self, names, begin, end):
        for name in names:
            self.board.shut(self.names.index(name), begin, end)
        return []

    def do_open(self, names, begin, end):
        for name in names:
            self.board.lift(self.names.index(name), begin, end)
        return []

    def refusal(self, deed):
        """The reason for which a deed with known numbers and names is refused, or None."""
        word, *rest = deed
        number = rest[0]
        if word in ("come", "row"):
            return self.refusal_of_comer(deed)
        if word == "end":
            return None if self.stands(number) == "runs" else ("stands", number, self.stands(number))
        if word in ("leave", "hold", "raise", "take"):
            bad = ("over",) if word == "leave" else ("over", "runs")
            if self.stands(number) in bad:
                return ("stands", number, self.stands(number))
        if word == "hold" and number in self.held or word == "let" and number not in self.held:
            return ("held", number)
        if word in ("raise", "take") and self.stands(number) == "untold" and not self.ready(number):
            return ("ready", number)
        if word == "raise":
            if number not in self.board.told and len(self.board.told) >= self.board.depth:
                return ("depth",)
            yard = self.board.yard
            for key in self.board.told:
                yard = yard.without_place(key)
            return None if earliest_place(yard, self.ask(number), self.jobs[number].limit, self.board.now) else ("never", number)
        if word == "take":
            return ("none", number) if self.least_set(number) is None else None
        return self.refusal_of_machines(word, rest)

    def refusal_of_machines(self, word, rest):
        name = rest[0]
        if word == "fail":
            return ("twice", name) if self.names.index(name) in self.board.failed else None
        if word == "mend":
            return None if self.names.index(name) in self.board.failed else ("failed", name)
        if word == "shut":
            names, begin, end = rest
            runs = [key for key in sorted(self.board.runs)
                    if any([self.board.has(key, self.names.index(one), begin, end) for one in names])]
            if runs:
                return ("runs", tuple(runs))
            for one in names:
                if (self.names.index(one), begin, end) in self.board.yard.shut_spans:
                    return ("twice", one)
        return None

    def refusal_of_comer(self, deed):
        job = deed[1]
        kinds = [kind for _, _, amounts in job.groups for kind in amounts.kinds] + list(job.tokens.kinds)
        odd = [kind for kind in kinds if not kind.isalpha()]
        if odd:
            return ("kinds", min(odd))
        if job.account not in self.limits.accounts:
            return ("account", job.account)
        doors = self.doors.usable(job)
        if not doors:
            return ("doors",)
        pairs = tuple([(door, self.limits.beyond(job, door)) for door in doors])
        if all([rows for _, rows in pairs]):
            return ("limits", pairs)
        yard = self.first
        try:
            if deed[0] == "row":
                row = Row(len(self.jobs) + 1, deed[2], at_once=deed[3])
                job, yard = row.part(job), yard.with_more(row.amounts)
            place = earliest_place(yard, self.limits.ask(self.doors, job), job.limit, 0)
        except InvalidJob:
            place = None
        return None if place else ("never",)


def some_setting(chance):
    """Any small setting."""
    machines = tuple([Machine("abcd"[at], some(core=chance.choice((2, 2, 4)), mem=2), marks=chance.choice(((), ("big",))),
                              rack=chance.choice(("x", "y"))) for at in range(chance.randrange(1, 4))])
    accounts = Accounts((("lab", "", chance.choice((1, 2))), ("web", "", 1), ("team", "lab", 1)))
    rows = (((("account", "lab"), "jobs", 2), (("door", "day"), "core", 3), (("person", "ada"), "mem", 2), (("account", "team"), "core", 4),
             (("door", "night"), "jobs", 1)))
    limits = Limits(accounts, tuple(sorted(chance.sample(rows, chance.choice((0, 0, 0, 1, 2))))))
    weights = Weights(age=chance.choice((0, 1, 2)), cap=chance.choice((3, 100)), size=chance.choice((0, 1)), grade=chance.choice((0, 3)),
                      place=chance.choice((0, 5)))
    period = chance.choice((1, 5, 8, 30))
    windows = [(machine.name, chance.randrange(period), chance.randrange(1, max(2, period // 2))) for machine in machines if chance.random() < 0.2]
    return (machines, chance.choice((NOTHING, some(lic=1), some(lic=2))), Doors((("day", 6), ("night", 20))), limits, weights,
            chance.choice((1, 1, 2, 3, 5)), chance.random() < 0.4, period, tuple(sorted(windows)))


def some_after(chance, many):
    words = ("begun", "over", "well", "ill", "late", "left")
    atoms = [(chance.choice(words), chance.randrange(1, many + 3)) for _ in range(2)]
    return chance.choice((atoms[0], atoms[0], ("or", tuple(atoms)), ("and", tuple(atoms))))


def some_job(chance, many):
    groups = tuple([(chance.choice((1, 1, 1, 1, 2)), chance.choice((ALL, ALL, ALL, ALL, BIG)), chance.choice((some(core=1), some(core=2), some(core=2), some(core=4), some(mem=1))))
                    for _ in range(chance.choice((1, 1, 1, 2)))])
    return Job(chance.choice(("sim", "fit")), account=chance.choice(("lab", "team", "web", "web")), person=chance.choice(("ada", "bob")),
               doors=chance.choice((("day",), ("night",), ("day", "night"), ("night", "day"), ("night", "day"))), groups=groups,
               tokens=chance.choice((None, None, None, some(lic=1))), limit=chance.choice((1, 2, 3, 5, 6, 6, 9, 15)),
               grade=chance.randrange(4), after=some_after(chance, many) if chance.random() < 0.2 else None)


def some_deed(chance, house):
    """Any deed for a house with known names."""
    names = [machine.name for machine in house.setting[0]]
    many = len(house)
    dice = chance.random()
    if many == 0 or dice < 0.28:
        return ("come", some_job(chance, many))
    if dice < 0.32:
        count = chance.randrange(1, 5)
        indices = tuple(sorted(chance.sample(range(9), count)))
        return ("row", some_job(chance, many), indices, chance.choice((None, None, 1, count)))
    if dice < 0.55:
        return ("wait", chance.choice((1, 1, 2, 3, 5, 8, 20)))
    number = chance.choice(range(1, many + 1))
    if house.runs and dice < 0.64:
        return ("end", chance.choice(house.runs) if chance.random() < 0.9 else number, chance.choice(("well", "ill")))
    if dice < 0.68:
        return ("leave", number)
    if dice < 0.83:
        word = chance.choice(("hold", "let", "raise", "take", "take"))
        pool = {"hold": house.told + house.untold, "let": house.held}.get(word, house.told + house.row())
        return (word, chance.choice(pool if pool and chance.random() < 0.9 else (number,)))
    if dice < 0.9:
        return (chance.choice(("fail", "mend", "mend")), chance.choice(names))
    if dice < 0.96 or not house.yard.shut_spans:
        begin = house.now + chance.randrange(6)
        some_names = tuple(sorted(chance.sample(names, chance.randrange(1, len(names) + 1))))
        return ("shut", some_names, begin, chance.choice((None, begin + 1, begin + 3, begin + 5)))
    machine, begin, end = chance.choice(house.yard.shut_spans)
    return ("open", (names[machine],), begin, end)
