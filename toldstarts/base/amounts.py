"""Amounts of kinds, such as cores or memory, and their texts."""

from toldstarts.base.checks import blanks_end, digits_end, is_between, is_digit, is_letter, is_short_name, is_whole
from toldstarts.errors import InvalidAmounts, InvalidNumber, Lacking, ParseError, UnknownName

MAX_KINDS = 60
MAX_AMOUNT = 1000000

NOTHING = "nothing"
MAX_KIND_SIGNS = 8
MAX_NUMBER_DIGITS = 7


class Amounts:
    """How much there is, or is wanted, of some kinds."""

    def __init__(self, pairs=()):
        if pairs != () and not _are_pairs(pairs):
            raise InvalidAmounts("the pairs are no ascending pairs of kinds and numbers")
        self._pairs = pairs
        self._numbers = dict(pairs)

    @classmethod
    def of_text(cls, text):
        """The amounts of a text."""
        if not isinstance(text, str):
            raise ParseError(None)
        entries = _read_entries(text)
        _check_entries(entries)
        return cls(tuple(sorted([entry[:2] for entry in entries])))

    @classmethod
    def cover_of(cls, *some):
        """The least amounts that cover each of some amounts."""
        greatest = {}
        for amounts in some:
            check_amounts(amounts)
            for kind, number in amounts.pairs:
                greatest[kind] = max(number, greatest.get(kind, 0))
        return cls(_pairs_of(greatest))

    @property
    def pairs(self):
        """The pairs of kinds and numbers, ascending."""
        return self._pairs

    @property
    def kinds(self):
        """The kinds, ascending."""
        return tuple([kind for kind, _ in self._pairs])

    def covers(self, other):
        """Whether there is at least as much as `other` of each kind."""
        check_amounts(other)
        return not _lacking(self, other)

    def lacks(self, other):
        """The amounts that must be added to cover `other`."""
        check_amounts(other)
        return Amounts(_lacking(self, other))

    def times(self, want):
        """How many times the wanted amounts are covered."""
        check_amounts(want)
        if not want.pairs:
            raise InvalidAmounts("amounts without kinds are covered any number of times")
        return min([self._numbers.get(kind, 0) // number for kind, number in want.pairs])

    def __getitem__(self, at):
        if not is_kind(at):
            raise UnknownName(at)
        return self._numbers.get(at, 0)

    def __contains__(self, x):
        return is_kind(x) and x in self._numbers

    def __iter__(self):
        return iter(self._pairs)

    def __len__(self):
        return len(self._pairs)

    def __bool__(self):
        return bool(self._pairs)

    def __eq__(self, other):
        return isinstance(other, Amounts) and self._pairs == other._pairs

    def __str__(self):
        if not self._pairs:
            return "nothing"
        return ", ".join([f"{kind} {number}" for kind, number in self._pairs])

    def __add__(self, other):
        if not isinstance(other, Amounts):
            return NotImplemented
        numbers = dict(self._numbers)
        for kind, number in other._pairs:
            numbers[kind] = numbers.get(kind, 0) + number
        if len(numbers) > MAX_KINDS or max(numbers.values(), default=0) > MAX_AMOUNT:
            raise InvalidAmounts("the sum has too many kinds, or a number that is too great")
        return sure_amounts(_pairs_of(numbers))

    def __sub__(self, other):
        if not isinstance(other, Amounts):
            return NotImplemented
        lacking = _lacking(self, other)
        if lacking:
            raise Lacking(Amounts(lacking))
        rest = [(kind, number - other._numbers.get(kind, 0)) for kind, number in self._pairs]
        return Amounts(tuple([(kind, number) for kind, number in rest if number > 0]))

    def __mul__(self, other):
        if not is_whole(other):
            return NotImplemented
        if other < 0:
            raise InvalidNumber(other)
        return Amounts(tuple([(kind, number * other) for kind, number in self._pairs if other > 0]))


def is_kind(value):
    """Whether the value is a kind of amounts."""
    return is_short_name(value, MAX_KIND_SIGNS) and value != NOTHING


def check_amounts(value):
    """Refuse what is no amounts."""
    if not isinstance(value, Amounts):
        raise InvalidAmounts("the value is no object of Amounts")


def sure_amounts(pairs):
    """The amounts with pairs that are surely right, so that they need not be looked at again."""
    made = Amounts()
    made._pairs = pairs
    made._numbers = dict(pairs)
    return made


def _are_pairs(value):
    """Whether the value is a tuple of pairs that amounts can have."""
    if not isinstance(value, tuple) or len(value) > MAX_KINDS:
        return False
    ahead = ""
    for pair in value:
        if not isinstance(pair, tuple) or len(pair) != 2:
            return False
        kind, number = pair
        if not is_kind(kind) or not ahead < kind or not is_between(number, 1, MAX_AMOUNT):
            return False
        ahead = kind
    return True


def _pairs_of(numbers):
    """The ascending pairs of a dict from kinds to numbers above 0."""
    return tuple([(kind, numbers[kind]) for kind in sorted(numbers)])


def _lacking(one, other):
    """The pairs of the amounts by which `one` is short of `other`."""
    short = [(kind, number - one._numbers.get(kind, 0)) for kind, number in other._pairs]
    return tuple([(kind, number) for kind, number in short if number > 0])


def _read_entries(text):
    """The tuples (kind, number, index of the kind, index of the number) of all entries of a text."""
    at = blanks_end(text, 0)
    end = _run_end(text, at)
    if text[at:end] == NOTHING:
        rest = blanks_end(text, end)
        if rest < len(text):
            raise ParseError(rest)
        return []
    entries = []
    while True:
        entry, end = _read_entry(text, at)
        entries.append(entry)
        end = blanks_end(text, end)
        if end == len(text):
            return entries
        if text[end] != ",":
            raise ParseError(end)
        at = blanks_end(text, end + 1)


def _read_entry(text, at):
    """The entry that begins at an index, and the index behind it."""
    end = _run_end(text, at)
    kind = text[at:end]
    begin = blanks_end(text, end)
    # Behind the end of the run there is no way on for a word that is no kind.
    if begin == end or kind == NOTHING:
        raise ParseError(end)
    end = digits_end(text, begin, MAX_NUMBER_DIGITS)
    if end == begin or text[begin] == "0":
        raise ParseError(begin)
    return (kind, int(text[begin:end]), at, begin), end


def _run_end(text, at):
    """The index behind the letters and digits of a kind that begins at an index."""
    if not is_letter(text[at:at + 1]):
        raise ParseError(at)
    end = at + 1
    while end - at < MAX_KIND_SIGNS and (is_letter(text[end:end + 1]) or is_digit(text[end:end + 1])):
        end = end + 1
    return end


def _check_entries(entries):
    """Refuse entries that have the right form and yet cannot stand together, or are too great."""
    seen = {}
    for kind, number, kind_at, number_at in entries:
        if kind in seen or len(seen) == MAX_KINDS:
            raise ParseError(kind_at)
        if number > MAX_AMOUNT:
            raise ParseError(number_at)
        seen[kind] = True
