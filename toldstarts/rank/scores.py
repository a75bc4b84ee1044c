"""Scores of waiting jobs, and how they are ranked now and later."""

from toldstarts.base.checks import is_between, is_job_number, is_name
from toldstarts.base.ticks import is_tick
from toldstarts.errors import InvalidHouse, InvalidJob, InvalidNumber, InvalidTick, TooMany, UnknownName
from toldstarts.rank.accounts import Accounts, MAX_ACCOUNTS
from toldstarts.rank.swaps import rank, score_at, turns_of

MAX_ENTRIES = 60
MAX_TURNS = 10000

MAX_WEIGHT = 1000000
MAX_SIZE = 10 ** 12
MAX_ENTRY_GRADE = 1000000
MAX_SCORE_TICK = 2 * 10 ** 9
MAX_PERIOD_LENGTH = 1000000


class Weights:
    """The weights of what makes a score."""

    def __init__(self, *, age=1, cap=10000, size=0, grade=0, place=0):
        for weight in (age, cap, size, grade, place):
            if not is_between(weight, 0, MAX_WEIGHT):
                raise InvalidNumber(weight)
        self._age = age
        self._cap = cap
        self._size = size
        self._grade = grade
        self._place = place

    @property
    def age(self):
        """The weight of each tick since an entry came."""
        return self._age

    @property
    def cap(self):
        """How many of these ticks count."""
        return self._cap

    @property
    def size(self):
        """The weight of the size."""
        return self._size

    @property
    def grade(self):
        """The weight of the grade."""
        return self._grade

    @property
    def place(self):
        """The weight of the place of the account in the order of accounts."""
        return self._place

    def changed(self, **others):
        """The weights with other values."""
        weights = {"age": self._age, "cap": self._cap, "size": self._size, "grade": self._grade, "place": self._place}
        for name in others:
            if name not in weights:
                raise UnknownName(name)
            weights[name] = others[name]
        return Weights(**weights)

    def __eq__(self, other):
        return isinstance(other, Weights) and self._key() == other._key()

    def __str__(self):
        return f"age {self._age} cap {self._cap} size {self._size} grade {self._grade} place {self._place}"

    def _key(self):
        """What is equal for equal weights."""
        return (self._age, self._cap, self._size, self._grade, self._place)


def score(weights, entry, tick, order):
    """The score of an entry at a tick."""
    check_weights(weights)
    if not _is_entry(entry):
        raise InvalidJob("the entry is none")
    _check_score_tick((entry,), tick)
    _check_order(order)
    _check_accounts((entry,), order)
    return score_at(_row_of(weights, entry, _places_of(order)), tick, weights.age, weights.cap)


def ranked(weights, entries, tick, order):
    """The numbers of the ranked entries."""
    check_weights(weights)
    _check_entries(entries)
    _check_score_tick(entries, tick)
    _check_order(order)
    _check_accounts(entries, order)
    return ranked_surely(weights, entries, tick, order)


def ranked_surely(weights, entries, tick, order):
    """The same for what is surely right. Without a weight of places the order can be empty."""
    return rank(_rows_of(weights, entries, order), tick, weights.age, weights.cap)


def order_turns(weights, entries, accounts, tick, length):
    """The pairs (turn, numbers of the ranked entries) of all turns behind a tick."""
    _check_turns(weights, entries, accounts, tick, length)
    phases = _phases_of(weights, entries, accounts, tick, length)
    age, cap, found = weights.age, weights.cap, []
    for turn in turns_of(phases, age, cap):
        if len(found) == MAX_TURNS:
            raise TooMany(MAX_TURNS)
        found.append(turn)
    return tuple(found)


def is_order_turns(weights, entries, accounts, tick, length, value):
    """Whether the value is the tuple of all turns behind a tick, however long."""
    _check_turns(weights, entries, accounts, tick, length)
    if not isinstance(value, tuple):
        return False
    phases = _phases_of(weights, entries, accounts, tick, length)
    age, cap, many = weights.age, weights.cap, 0
    for turn in turns_of(phases, age, cap):
        if many == len(value) or not _is_turn(value[many], turn):
            return False
        many = many + 1
    return many == len(value)


def _is_turn(value, turn):
    """Whether a value is a turn, without True as a 1."""
    if value != turn:
        return False
    return not any([isinstance(number, bool) for number in (value[0],) + value[1]])


def _phases_of(weights, entries, accounts, tick, length):
    """The pairs (begin, rows) of the ticks from which on the scores have other fixed parts, the first one now."""
    period = tick // length
    phases = [(tick, _rows_of(weights, entries, accounts.fair_order(period)))]
    # Without a weight of places no later order of accounts has an effect.
    turns = accounts.turns(period) if weights.place > 0 else ()
    for later, order in turns:
        rows = _rows_of(weights, entries, order)
        if rows != phases[-1][1]:
            phases.append((later * length, rows))
    return phases


def _rows_of(weights, entries, order):
    """The rows of entries by an order of accounts, as the other files of this folder use them."""
    places = _places_of(order)
    return [_row_of(weights, entry, places) for entry in entries]


def _row_of(weights, entry, places):
    """The row of an entry: its number, the tick at which it came, and the part of its score that stays."""
    number, came, size, grade, account = entry
    return (number, came, weights.size * size + weights.grade * grade + weights.place * places.get(account, 0))


def _places_of(order):
    """For each name of an order the number of names from it on to the end."""
    return {name: len(order) - at for at, name in enumerate(order)}


def _is_entry(value):
    """Whether the value is an entry."""
    if not isinstance(value, tuple) or len(value) != 5:
        return False
    number, came, size, grade, account = value
    if not is_job_number(number) or not is_tick(came) or not is_name(account):
        return False
    return is_between(size, 0, MAX_SIZE) and is_between(grade, 0, MAX_ENTRY_GRADE)


def check_weights(value):
    """Refuse what are no weights."""
    if not isinstance(value, Weights):
        raise InvalidHouse("the value is no object of Weights")


def _check_entries(value):
    """Refuse what are no entries."""
    if not isinstance(value, tuple) or len(value) > MAX_ENTRIES or not all([_is_entry(entry) for entry in value]):
        raise InvalidJob("the value is no tuple of few enough entries")
    if len(set([entry[0] for entry in value])) < len(value):
        raise InvalidJob("two entries have the same number")


def _check_score_tick(entries, tick):
    """Refuse what is no tick of a score: it can be beyond the last tick, but not ahead of an entry."""
    if not is_between(tick, max([0] + [entry[1] for entry in entries]), MAX_SCORE_TICK):
        raise InvalidTick("the value is no tick at which there are these entries")


def _check_order(value):
    """Refuse what is no order of accounts."""
    if not isinstance(value, tuple) or not 1 <= len(value) <= MAX_ACCOUNTS:
        raise InvalidHouse("the order is no tuple of few enough names")
    if not all([is_name(name) for name in value]) or len(set(value)) < len(value):
        raise InvalidHouse("the order has what is no name, or an account twice")


def _check_accounts(entries, names):
    """Refuse entries of which an account is none of some names."""
    for entry in entries:
        if entry[4] not in names:
            raise UnknownName(entry[4])


def _check_turns(weights, entries, accounts, tick, length):
    """Refuse arguments from which no turns follow."""
    check_weights(weights)
    _check_entries(entries)
    if not isinstance(accounts, Accounts):
        raise InvalidHouse("the value is no object of Accounts")
    if not is_tick(tick):
        raise InvalidTick("the value is no tick")
    _check_score_tick(entries, tick)
    if not is_between(length, 1, MAX_PERIOD_LENGTH):
        raise InvalidNumber(length)
    if tick // length < accounts.newest:
        raise InvalidTick("there is use in a later period than that of the tick")
    _check_accounts(entries, accounts)
