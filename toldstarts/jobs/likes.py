"""Rows of like jobs, and the lines that tell the states of jobs."""

from toldstarts.base.amounts import Amounts, MAX_KINDS
from toldstarts.base.checks import is_ascending, is_between, is_job_number, is_whole, is_word
from toldstarts.errors import InvalidJob, InvalidNumber, ParseError, TooMany, UnknownName
from toldstarts.jobs.indices import indices_of, least_text
from toldstarts.jobs.jobs import check_job

MAX_PARTS = 60
MAX_INDEX = 9999
MAX_LINES = 1000

MAX_FIRST = 999000


def fold_indices(indices):
    """The least text of indices."""
    if not are_indices(indices):
        raise InvalidJob("the values are no indices")
    return least_text(indices)


def unfold_indices(text):
    """The indices that a text of indices tells."""
    return indices_of(text, MAX_PARTS)


class Row:
    """A number of jobs that are alike, its parts, with consecutive numbers."""

    def __init__(self, first, indices, *, at_once=None):
        if not is_between(first, 1, MAX_FIRST):
            raise InvalidNumber(first)
        if not are_indices(indices):
            raise InvalidJob("the values are no indices")
        if at_once is not None and not is_between(at_once, 1, len(indices)):
            raise InvalidNumber(at_once)
        self._indices = indices
        self._at_once = at_once
        self._numbers = tuple(range(first, first + len(indices)))
        self._numbers_by_index = dict(zip(indices, self._numbers))

    @property
    def first(self):
        """The number of the first part, by which the row is named."""
        return self._numbers[0]

    @property
    def indices(self):
        """The indices of the parts."""
        return self._indices

    @property
    def at_once(self):
        """How many parts may run at the same tick, or None for all."""
        return self._at_once

    @property
    def numbers(self):
        """The numbers of the parts, ascending."""
        return self._numbers

    @property
    def kind(self):
        """The private kind, or None if all parts may run at the same tick."""
        return None if self._at_once is None else f"r{self._numbers[0]}"

    @property
    def amounts(self):
        """What the house has of the private kind for the row."""
        return Amounts() if self._at_once is None else Amounts(((self.kind, self._at_once),))

    def number_of(self, index):
        """The number of the part with an index."""
        if not is_whole(index) or index not in self._numbers_by_index:
            raise UnknownName(index)
        return self._numbers_by_index[index]

    def index_of(self, number):
        """The index of the part with a number."""
        if number not in self:
            raise UnknownName(number)
        return self._indices[number - self._numbers[0]]

    def part_name(self, number):
        """The name of a part, like 7.3."""
        return f"{self._numbers[0]}.{self.index_of(number)}"

    def part(self, job):
        """The job that each part is if the row is made of a job."""
        check_job(job)
        if self._at_once is None:
            return job
        if self.kind in job.total or len(job.total) == MAX_KINDS:
            raise InvalidJob("the job has the private kind, or no room for it")
        return job.changed(tokens=job.tokens + Amounts(((self.kind, 1),)))

    def __contains__(self, x):
        return is_between(x, self._numbers[0], self._numbers[-1])

    def __len__(self):
        return len(self._numbers)

    def __iter__(self):
        return iter(self._numbers)

    def __eq__(self, other):
        return (isinstance(other, Row) and self._numbers == other._numbers and self._indices == other._indices
                and self._at_once == other._at_once)

    def __str__(self):
        if self._at_once is None:
            return f"row {self._numbers[0]} of {len(self._numbers)} parts"
        return f"row {self._numbers[0]} of {len(self._numbers)} parts, {self._at_once} at once"


def fold_states(rows, states):
    """The state lines of some jobs."""
    _check_rows(rows)
    if not _are_states(states):
        raise InvalidJob("the states are no words of few enough job numbers")
    # The jobs are gone through ascending, so the lines come in the order of their least numbers.
    lines = {}
    for number in sorted(states):
        row = _row_with(rows, number)
        if row is None:
            lines[(number, "")] = f"{number} {states[number]}"
        else:
            lines.setdefault((row.first, states[number]), []).append(row.index_of(number))
    return tuple([line if state == "" else _parts_line(first, line, state) for (first, state), line in lines.items()])


def unfold_states(rows, lines):
    """The dict from job numbers to states that some state lines tell."""
    _check_rows(rows)
    if not isinstance(lines, tuple) or len(lines) > MAX_LINES or not all([isinstance(line, str) for line in lines]):
        raise InvalidJob("the lines are no tuple of few enough strings")
    states = {}
    for at, line in enumerate(lines):
        head, _, state = line.partition(" ")
        numbers = _numbers_told(rows, head)
        if not is_word(state) or not numbers or any([number in states for number in numbers]):
            raise ParseError(at)
        for number in numbers:
            states[number] = state
    return {number: states[number] for number in sorted(states)}


def are_indices(value):
    """Whether the value are indices."""
    if not isinstance(value, tuple) or not 1 <= len(value) <= MAX_PARTS:
        return False
    return all([is_between(index, 0, MAX_INDEX) for index in value]) and is_ascending(value)


def _are_states(value):
    """Whether the value is a dict of states that lines can tell."""
    if not isinstance(value, dict) or len(value) > MAX_LINES:
        return False
    return all([is_job_number(number) and is_word(state) for number, state in value.items()])


def _check_rows(value):
    """Refuse what is no tuple of ascending rows without a common job."""
    if not isinstance(value, tuple) or not all([isinstance(row, Row) for row in value]):
        raise InvalidJob("the rows are no tuple of rows")
    if not all([one.numbers[-1] < other.first for one, other in zip(value, value[1:])]):
        raise InvalidJob("the rows are not ascending, or have a common job")


def _row_with(rows, number):
    """The row that has a job, or None."""
    low, high = 0, len(rows)
    while low < high:
        middle = (low + high) // 2
        if rows[middle].numbers[-1] < number:
            low = middle + 1
        else:
            high = middle
    return rows[low] if low < len(rows) and number in rows[low] else None


def _parts_line(first, indices, state):
    """The line of some parts of a row."""
    if len(indices) == 1:
        return f"{first}.{indices[0]} {state}"
    return f"{first}.[{least_text(indices)}] {state}"


def _numbers_told(rows, head):
    """The numbers of the jobs that the head of a state line tells, or nothing if it is wrong."""
    word, dot, text = head.partition(".")
    number = _number_of(word)
    if not is_job_number(number):
        return []
    row = _row_with(rows, number)
    if dot == "":
        return [number] if row is None else []
    if row is None or row.first != number:
        return []
    indices = _indices_told(text)
    if not all([index in row.indices for index in indices]):
        return []
    return [row.number_of(index) for index in indices]


def _indices_told(text):
    """The indices that stand behind the dot of a state line, or nothing if they are wrong."""
    if text[:1] != "[":
        index = _number_of(text)
        return [] if index is None else [index]
    if text[-1] != "]":
        return []
    try:
        return indices_of(text[1:-1], MAX_PARTS)
    except (ParseError, TooMany):
        return []


def _number_of(text):
    """The number that a text without zeros ahead is, or None."""
    # No longer number is that of a job, or an index.
    if not text.isdigit() or not text.isascii() or len(text) > len(str(MAX_FIRST)) + 1:
        return None
    number = int(text)
    return number if str(number) == text else None
