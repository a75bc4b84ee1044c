"""What each deed does to the inside of a house.

What does a deed is called with a copy of the inside, which is thrown away behind an error. It tells the events of the
deed itself.
"""

from toldstarts.base.checks import without_key
from toldstarts.errors import InvalidDeed, InvalidJob, Refused, TooMany, UnknownName
from toldstarts.jobs.likes import Row
from toldstarts.plan.asks import Bid
from toldstarts.plan.places import yard_of
from toldstarts.plan.taking import least_taken

MOST_OPEN = 60
MOST_NUMBERS = 1000
MOST_AT_ONCE_ROWS = 24


def done(inside, deed):
    """Do what has the form of a deed; tell all events."""
    action = ACTIONS[deed[0]]
    starts = {} if deed[0] == "wait" else inside.table.starts_told()
    events = list(action(inside, deed))
    inside.deeds_done = inside.deeds_done + 1
    if deed[0] != "wait":
        events.extend(_moves(inside, starts, deed))
        events.extend(inside.settle())
    return tuple(events)


def _moves(inside, starts, deed):
    """The events of the jobs that were told ahead of a deed, and have another start now or stand untold."""
    found, now = [], inside.table.clock
    for number, old in starts.items():
        stands = inside.stands(number)
        new = inside.table.start_of(number) if stands == "told" else None
        if deed == ("raise", number) or stands in ("runs", "over") or new == old:
            continue
        if new is not None and new < old:
            found.append((now, "drawn", number, old, new))
        else:
            inside.put_off = {**inside.put_off, number: True}
            found.append((now, "put off", number, old, new, inside.deeds_done))
    return found


def _come(inside, deed):
    """A job comes."""
    job = deed[1]
    reason, bid = inside.rules.answer(job)
    if reason is not None:
        raise Refused(reason)
    _refuse_many(inside, 1)
    return _let_come(inside, job, bid, 1)


def _row(inside, deed):
    """A row of like jobs comes."""
    _, job, indices, once = deed
    row = Row(len(inside.comers) + 1, indices, at_once=once)
    reason, bid = inside.rules.answer(job) if once is None else _answer_beside(inside, job, row)
    if reason is not None:
        raise Refused(reason)
    _refuse_many(inside, len(row))
    if once is not None:
        if len([one for one in inside.like_rows if one.at_once is not None]) >= MOST_AT_ONCE_ROWS:
            raise TooMany(MOST_AT_ONCE_ROWS)
        inside.table.more(row.amounts)
        # The bid of the settings does not tell where the house has the kind of the row.
        ground = inside.table.ground
        bid = Bid(ground.layout, ground.house_shifts, bid.asked)
    inside.like_rows = inside.like_rows + (row,)
    return _let_come(inside, row.part(job), bid, len(row))


def _answer_beside(inside, job, row):
    """The pair of the reason to refuse a row of a job with an at once, or None, and of a bid of its parts."""
    try:
        part = row.part(job)
    except InvalidJob:
        part = None
    return inside.rules.answer_beside(job, part, inside.rules.first_ground.with_stock(row.amounts))


def _refuse_many(inside, many):
    """Refuse so many jobs more if there are too many then."""
    if len(inside.bids) + many > MOST_OPEN:
        raise TooMany(MOST_OPEN)
    if len(inside.comers) + many > MOST_NUMBERS:
        raise TooMany(MOST_NUMBERS)


def _let_come(inside, job, bid, many):
    """Let so many like jobs come."""
    now, first = inside.table.clock, len(inside.comers) + 1
    comers, arrivals, states, bids = dict(inside.comers), dict(inside.arrivals), dict(inside.states), dict(inside.bids)
    for number in range(first, first + many):
        comers[number] = job
        arrivals[number] = now
        states[number] = "waiting"
        bids[number] = bid
    inside.comers = comers
    inside.arrivals = arrivals
    inside.states = states
    inside.bids = bids
    return [(now, "came", number) for number in range(first, first + many)]


def _end(inside, deed):
    """A run ends."""
    _, number, state = deed
    _refuse_standing(inside, number, ("untold", "told", "over"))
    return [inside.end_run(number, state)]


def _leave(inside, deed):
    """A job leaves."""
    number = deed[1]
    _refuse_standing(inside, number, ("over",))
    return [inside.end_run(number, "left" if inside.states[number] == "waiting" else "gone")]


def _hold(inside, deed):
    """A job is held."""
    number = deed[1]
    _refuse_standing(inside, number, ("runs", "over"))
    if number in inside.held_numbers:
        raise Refused(("held", number))
    if inside.stands(number) == "told":
        inside.table.end_early(number)
    inside.held_numbers = {**inside.held_numbers, number: True}
    return []


def _let(inside, deed):
    """A job is no longer held."""
    number = deed[1]
    _check_number(inside, number)
    if number not in inside.held_numbers:
        raise Refused(("held", number))
    inside.held_numbers = without_key(inside.held_numbers, number)
    return []


def _raise(inside, deed):
    """A job is told ahead of all others."""
    number, table = deed[1], inside.table
    _refuse_unready(inside, number)
    if number not in table.told_keys and len(table.told_keys) >= table.most_told:
        raise Refused(("depth",))
    table.raise_up(number, inside.bids[number], inside.comers[number].limit)
    return [(table.clock, "told", number, table.start_of(number))]


def _take(inside, deed):
    """A job begins, and runs of lesser grades give way."""
    number, table = deed[1], inside.table
    _refuse_unready(inside, number)
    ground, job, bid = table.ground, inside.comers[number], inside.bids[number]
    if number in ground.stays:
        ground = ground.without_stay(number)
    runs = tuple([(key, inside.comers[key].grade) for key in sorted(table.running)])
    taken = least_taken(yard_of(ground), bid.asked, job.limit, table.clock, runs, job.grade)
    if taken is None:
        raise Refused(("none", number))
    for key in taken:
        table.end_early(key)
    events = inside.put_back(taken)
    events.append(inside.run_at(number, table.begin(number, bid, job.limit)))
    return events


def _fail(inside, deed):
    """A machine fails."""
    name = deed[1]
    machine = _machine_of(inside, name)
    if machine in inside.table.failures:
        raise Refused(("twice", name))
    gone, _ = inside.table.fail(machine)
    return inside.put_back(gone)


def _mend(inside, deed):
    """A machine is mended."""
    name = deed[1]
    machine = _machine_of(inside, name)
    if machine not in inside.table.failures:
        raise Refused(("failed", name))
    inside.table.mend(machine)
    return []


def _shut(inside, deed):
    """Machines are shut."""
    _, names, begin, end = deed
    spans = [(_machine_of(inside, name), begin, end) for name in names]
    table = inside.table
    if begin < table.clock or (end is not None and end <= begin):
        raise InvalidDeed("the begin is ahead of the present tick, or not below the end")
    keys = [key for span in spans for key in table.ground.keys_meeting(span[0], begin, end) if key in table.running]
    if keys:
        raise Refused(("runs", tuple(sorted(set(keys)))))
    for name, span in zip(names, spans):
        if span in table.ground.span_rows:
            raise Refused(("twice", name))
    for machine, _, _ in spans:
        table.shut(machine, begin, end)
    return []


def _reopen(inside, deed):
    """Shut spans of machines are taken away."""
    _, names, begin, end = deed
    spans = [(_machine_of(inside, name), begin, end) for name in names]
    table = inside.table
    for name, span in zip(names, spans):
        if span not in table.ground.span_rows or table.is_of_failure(span):
            raise UnknownName((name, begin, end))
    for machine, _, _ in spans:
        table.lift(machine, begin, end)
    return []


def _wait(inside, deed):
    """Time passes."""
    return inside.wait(deed[1])


def _check_number(inside, number):
    """Refuse what is no number of a job."""
    if number not in inside.comers:
        raise UnknownName(number)


def _refuse_standing(inside, number, words):
    """Refuse a job that there is not, or that stands in one of some ways."""
    _check_number(inside, number)
    stands = inside.stands(number)
    if stands in words:
        raise Refused(("stands", number, stands))


def _refuse_unready(inside, number):
    """Refuse a job that is neither told nor ready."""
    _refuse_standing(inside, number, ("runs", "over"))
    if inside.stands(number) == "untold" and not inside.is_ready(number):
        raise Refused(("ready", number))


def _machine_of(inside, name):
    """The index of the machine with a name."""
    if name not in inside.rules.places_by_name:
        raise UnknownName(name)
    return inside.rules.places_by_name[name]


ACTIONS = {
    "come": _come,
    "row": _row,
    "end": _end,
    "leave": _leave,
    "hold": _hold,
    "let": _let,
    "raise": _raise,
    "take": _take,
    "fail": _fail,
    "mend": _mend,
    "shut": _shut,
    "open": _reopen,
    "wait": _wait,
}
