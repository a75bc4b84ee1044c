"""The forms of deeds."""

from toldstarts.base.checks import is_ascending, is_between, is_whole
from toldstarts.base.ticks import is_tick
from toldstarts.house.names import name_key
from toldstarts.jobs.jobs import Job
from toldstarts.jobs.likes import are_indices

LONGEST_WAIT = 100000
END_WORDS = ("well", "ill")


def is_deed(value):
    """Whether the value has the form of a deed."""
    if not isinstance(value, tuple) or len(value) == 0 or not isinstance(value[0], str):
        return False
    if len(value) != MEMBERS.get(value[0]):
        return False
    form = FORMS[value[0]]
    return form(value)


def _is_come(deed):
    """Whether a job is told."""
    return isinstance(deed[1], Job)


def _is_row(deed):
    """Whether a job, indices and an at once are told."""
    _, job, indices, once = deed
    if not isinstance(job, Job) or not are_indices(indices):
        return False
    return once is None or is_between(once, 1, len(indices))


def _is_end(deed):
    """Whether a number and a word are told."""
    return is_whole(deed[1]) and deed[2] in END_WORDS


def _is_of_number(deed):
    """Whether a number is told."""
    return is_whole(deed[1])


def _is_of_name(deed):
    """Whether a name is told."""
    return name_key(deed[1]) is not None


def _is_of_span(deed):
    """Whether ordered names, a begin, and an end or None are told."""
    _, names, begin, end = deed
    if not isinstance(names, tuple) or len(names) == 0 or not is_tick(begin) or not (end is None or is_tick(end)):
        return False
    keys = [name_key(name) for name in names]
    return all([key is not None for key in keys]) and is_ascending(keys)


def _is_wait(deed):
    """Whether a number of ticks is told."""
    return is_between(deed[1], 1, LONGEST_WAIT)


# For each word how many members a deed has, and the function that looks at those behind the word.
MEMBERS = {
    "come": 2, "row": 4, "end": 3, "leave": 2, "hold": 2, "let": 2, "raise": 2, "take": 2, "fail": 2, "mend": 2,
    "shut": 4, "open": 4, "wait": 2,
}
FORMS = {
    "come": _is_come,
    "row": _is_row,
    "end": _is_end,
    "leave": _is_of_number,
    "hold": _is_of_number,
    "let": _is_of_number,
    "raise": _is_of_number,
    "take": _is_of_number,
    "fail": _is_of_name,
    "mend": _is_of_name,
    "shut": _is_of_span,
    "open": _is_of_span,
    "wait": _is_wait,
}
