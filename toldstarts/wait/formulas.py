"""Formulas over the ends of other jobs, their texts, and whether they can come true."""

from toldstarts.base.checks import is_ascending, is_job_number
from toldstarts.errors import InvalidFormula, InvalidJob, ParseError, TooMany, UnknownName
from toldstarts.wait.fates import ATOM_WORDS, STATES, TRUE_WORDS, check_known
from toldstarts.wait.reader import read_parts
from toldstarts.wait.trees import find_tree, first_words, is_tree, open_ends
from toldstarts.wait.truths import is_true, may_be_true, must_be_true, true_outcomes, way_of, words_by_job

MAX_NAMED = 6
MAX_PARTED = 5
MAX_AFTER_NODES = 60
MAX_DEEP = 8

MAX_MEMBERS = 20


def is_after_formula(value):
    """Whether any value is a formula."""
    waiting, nodes, jobs = [(value, 1)], 0, {}
    while waiting:
        f, depth = waiting.pop()
        nodes = nodes + 1
        if nodes > MAX_AFTER_NODES or depth > MAX_DEEP or not _is_node(f):
            return False
        if f[0] in ATOM_WORDS:
            jobs[f[1]] = True
        else:
            waiting.extend([(part, depth + 1) for part in f[1]])
    return len(jobs) <= MAX_NAMED


def jobs_named(f):
    """The ascending tuple of the job numbers of a formula."""
    _check_formula(f)
    return _jobs_of(f)


def read_after(text):
    """The formula with a text."""
    if not isinstance(text, str):
        raise ParseError(None)
    f = read_parts(text)
    if not is_after_formula(f):
        raise ParseError(len(text))
    return f


def write_after(f):
    """The text of a formula."""
    _check_formula(f)
    return _text_of(f)


def true_now(f, known):
    """Whether a formula is true in the states that are known."""
    _check(f, known, ())
    return is_true(f, {job: TRUE_WORDS[known[job]] for job in _jobs_of(f)})


def may_come(f, known, *, held=()):
    """Whether a formula is true in some outcome while some jobs are held."""
    _check(f, known, held)
    return may_be_true(f, known, held)


def sure(f, known):
    """Whether a formula is true in all outcomes."""
    _check(f, known, ())
    return must_be_true(f, known)


def parting_row(f, g):
    """The least row of states at which just one of two formulas is true, or None."""
    _check_formula(f)
    _check_formula(g)
    jobs = _jobs_of(("or", (f, g)))
    if len(jobs) > MAX_PARTED:
        raise TooMany(MAX_PARTED)
    words = words_by_job(("or", (f, g)))
    places = [(job, _first_places(words[job])) for job in jobs]
    choices = [(job, list(found)) for job, found in places]
    parts = true_outcomes(f, choices) ^ true_outcomes(g, choices)
    if parts == 0:
        return None
    rest = (parts & -parts).bit_length() - 1
    row = []
    for job, found in reversed(list(places)):
        rest, at = divmod(rest, len(found))
        row.append((job, list(found.values())[at]))
    return tuple(sorted(row))


def lost_tree(f, known, *, held=()):
    """A lost tree of a formula, or None if it may come."""
    _check(f, known, held)
    if may_be_true(f, known, held):
        return None
    ends = open_ends(f, known, held)
    return find_tree(f, ends, first_words(f, ends))


def is_lost_tree(f, known, value, *, held=()):
    """Whether any value is a lost tree of a formula."""
    _check(f, known, held)
    ends = open_ends(f, known, held)
    return is_tree(f, ends, first_words(f, ends), value)


def _is_node(value):
    """Whether the value has the form of a formula, whatever its members are."""
    if not isinstance(value, tuple) or len(value) != 2 or not isinstance(value[0], str):
        return False
    word, rest = value
    if word in ("and", "or"):
        return isinstance(rest, tuple) and 2 <= len(rest) <= MAX_MEMBERS
    return word in ATOM_WORDS and is_job_number(rest)


def _jobs_of(f):
    """The ascending tuple of the job numbers of what is surely a formula."""
    return tuple(sorted(words_by_job(f)))


def _text_of(f):
    """The text of what is surely a formula."""
    word, rest = f
    if word in ATOM_WORDS:
        return f"{word}({rest})"
    # A member is put into parentheses where it would be read as members of what is around it.
    loose = ("or",) if word == "or" else ("and", "or")
    texts = [f"({_text_of(part)})" if part[0] in loose else _text_of(part) for part in rest]
    return " & ".join(texts) if word == "and" else " | ".join(texts)


def _first_places(words):
    """For each way of some words the place of the first state in which just these are true."""
    found = {}
    for place, state in enumerate(STATES):
        found.setdefault(way_of(state, words), place)
    return found


def _check_formula(value):
    """Refuse what is no formula."""
    if not is_after_formula(value):
        raise InvalidFormula("the value is no formula over the ends of jobs")


def _check(f, known, held):
    """Refuse what is no formula, nothing known, or no held jobs, and a job that is not known."""
    _check_formula(f)
    check_known(known)
    if not isinstance(held, tuple) or not all([is_job_number(job) for job in held]) or not is_ascending(held):
        raise InvalidJob("the held jobs are no ascending tuple of job numbers")
    if not all([known.get(job) == "waiting" for job in held]):
        raise InvalidJob("a job is held that does not wait")
    for job in _jobs_of(f):
        if job not in known:
            raise UnknownName(job)
