"""Plain yards, straight from the words of stage 11: all is looked at tick by tick and choice by choice."""

import itertools

from toldstarts.base.amounts import Amounts
from toldstarts.errors import Refused
from toldstarts.house.machines import Machine
from toldstarts.plan.places import Yard
from helper import some

ALL, BIG = ("all",), ("mark", "big")
NOTHING = Amounts()


def group(count=1, form=ALL, **numbers):
    return (count, form, some(**numbers))


def want(*groups, **numbers):
    return (groups, some(**numbers))


def holds(f, marks):
    if f[0] == "not":
        return not holds(f[1], marks)
    if f[0] in ("and", "or"):
        return (all if f[0] == "and" else any)([holds(g, marks) for g in f[1]])
    return f == ALL or f[1] in marks


def is_open(yard, machine, tick):
    for one, begin, end in yard.shut_spans:
        if one == machine and begin <= tick and (end is None or tick < end):
            return False
    for one, begin, length in yard.windows:
        if one == machine and tick >= begin and (tick - begin) % yard.period < length:
            return False
    return True


def free_of(yard, machine, kind, tick):
    """What the places alone leave free on a machine."""
    number = yard.machines[machine].amounts[kind]
    for (start, door, choice), length, ask in yard.places.values():
        if start <= tick < start + length:
            for (_, _, amounts), members in zip(ask[door][0], choice):
                number -= amounts[kind] * (machine in members)
    return number


def free_of_house(yard, kind, tick):
    number = yard.amounts[kind]
    for (start, door, _), length, ask in yard.places.values():
        if start <= tick < start + length:
            number -= ask[door][1][kind]
    return number


def is_good(yard, machine, amounts, start, length):
    """Whether a machine is open and has amounts free in all ticks of a span."""
    return all([is_open(yard, machine, tick) and all([free_of(yard, machine, kind, tick) >= number for kind, number in amounts])
                for tick in range(start, start + length)])


def all_places_at(yard, ask, length, start):
    """All places that begin at a tick, in the order of 11.4."""
    found = []
    for door, (groups, amounts) in enumerate(ask):
        if not all([free_of_house(yard, kind, tick) >= number for tick in range(start, start + length) for kind, number in amounts]):
            continue
        fits = [[at for at, machine in enumerate(yard.machines) if holds(form, machine.marks) and is_good(yard, at, needs, start, length)]
                for _, form, needs in groups]
        for choice in itertools.product(*[itertools.combinations(some_fits, one[0]) for some_fits, one in zip(fits, groups)]):
            members = [at for row in choice for at in row]
            if len(set(members)) == len(members):
                racks = len(set([yard.machines[at].rack for at in members]))
                found.append((door, racks, choice))
    return [(start, door, choice) for door, _, choice in sorted(found)]


def plain_head(yard):
    ends = [place[0] + length for place, length, _ in yard.places.values()]
    ends += [begin if end is None else end for _, begin, end in yard.shut_spans]
    return max([0] + ends + [begin for _, begin, _ in yard.windows])


def plain_earliest(yard, ask, length, since, last=None):
    horizon = max(plain_head(yard), since) + yard.period
    for start in range(since, horizon if last is None else last):
        found = all_places_at(yard, ask, length, start)
        if found:
            return found[0]
    return None


def is_plain_bars(yard, ask, length, since, rows):
    """11.5 for rows of the right form, tick by tick; far ticks are not looked at one by one."""
    end = since
    for begin, stop, reasons in rows:
        if begin != end or not begin < stop or len(reasons) != len(ask):
            return False
        for reason, (groups, amounts) in zip(reasons, ask):
            if reason[0] == "short":
                _, kind, first, last = reason
                if not reaches(first, last, begin, stop, length):
                    return False
                if not all([free_of_house(yard, kind, tick) < amounts[kind] for tick in near(first, last)]):
                    return False
                continue
            _, indices, lacks = reason
            for machine, at, first, last, kind in lacks:
                if not reaches(first, last, begin, stop, length):
                    return False
                for tick in near(first, last):
                    if kind == "" and is_open(yard, machine, tick):
                        return False
                    if kind != "" and free_of(yard, machine, kind, tick) >= groups[at][2][kind]:
                        return False
            if list(lacks) != sorted(set(lacks)) or list(indices) != sorted(set(indices)) or not indices:
                return False
            told = set([(machine, at) for machine, at, _, _, _ in lacks])
            left = [machine for machine in range(len(yard.machines)) if [
                at for at in indices if holds(groups[at][1], yard.machines[machine].marks) and (machine, at) not in told]]
            if len(left) >= sum([groups[at][0] for at in indices]):
                return False
        end = stop
    if rows and end >= max(plain_head(yard), since) + yard.period:
        return True
    return bool(all_places_at(yard, ask, length, end))


def reaches(first, last, begin, stop, length):
    return 0 <= first <= last and first < begin + length and last >= stop - 1


def near(first, last):
    """All ticks of a span, but of a long one only those that a small yard can tell apart."""
    return range(first, min(last, first + 300) + 1)


def some_machines(chance, most=4):
    return tuple([Machine("abcdefgh"[at], some(core=chance.choice((1, 2, 2, 3)), mem=chance.choice((1, 2))),
                          marks=chance.choice(((), ("big",), ("big", "new"))), rack=chance.choice(("x", "y", "z")))
                  for at in range(chance.randrange(1, most + 1))])


def some_groups(chance):
    return tuple([(chance.choice((1, 1, 1, 2, 2, 3)), chance.choice((ALL, ALL, ALL, BIG, ("not", BIG))),
                   chance.choice((NOTHING, some(core=1), some(core=1), some(core=2), some(core=1, mem=1), some(mem=2))))
                  for _ in range(chance.choice((1, 1, 1, 2, 3)))])


def some_ask(chance):
    groups = some_groups(chance)
    return tuple([(chance.choice((groups, groups, some_groups(chance))), chance.choice((NOTHING, NOTHING, some(lic=1), some(lic=2), some(seat=1))))
                  for _ in range(chance.choice((1, 1, 1, 2, 3)))])


def fair_ask(chance, yard):
    """An ask that mostly has a place in an empty yard with the same machines."""
    ask, empty = some_ask(chance), Yard(yard.machines, yard.amounts)
    while chance.random() < 0.9 and not all_places_at(empty, ask, 1, 0):
        ask = some_ask(chance)
    return ask


def some_yard(chance, most=8, machines=4):
    """Any small yard with a few places, shut spans and windows."""
    yard = Yard(some_machines(chance, machines), chance.choice((NOTHING, some(lic=2), some(lic=1, seat=1))), period=chance.choice((1, 3, 5, 8)))
    for key in range(chance.randrange(most)):
        machine = chance.randrange(len(yard.machines))
        begin = chance.randrange(12)
        try:
            dice = chance.random()
            if dice < 0.2:
                yard = yard.with_shut(machine, begin, chance.choice((None, begin + 1, begin + chance.randrange(1, 9))))
            elif dice < 0.4:
                yard = yard.with_window(machine, chance.randrange(yard.period), chance.randrange(1, max(2, yard.period - 1)))
            else:
                ask, length = some_ask(chance), chance.randrange(1, 7)
                places = all_places_at(yard, ask, length, begin)
                yard = yard.with_place(key, chance.choice(places), length, ask)
        except (Refused, IndexError):
            pass
    return yard
