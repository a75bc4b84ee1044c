"""Formulas over the marks of machines, their texts, and what tells two of them apart."""

from toldstarts.errors import InvalidFormula, ParseError
from toldstarts.house.machines import ALL, MAX_MARKS, check_marks, is_mark
from toldstarts.house.reader import read_parts
from toldstarts.house.rows import prime_rows, subsets

MAX_DEPTH = 8
MAX_NODES = 60


def is_formula(value):
    """Whether any value is a formula."""
    waiting, nodes, marks = [(value, 1)], 0, {}
    while waiting:
        f, depth = waiting.pop()
        nodes = nodes + 1
        if nodes > MAX_NODES or depth > MAX_DEPTH or not _is_node(f):
            return False
        if f[0] == "mark":
            marks[f[1]] = True
        waiting.extend([(part, depth + 1) for part in _parts(f)])
    return len(marks) <= MAX_MARKS


def marks_in(f):
    """The ascending tuple of the marks of a formula."""
    _check_formula(f)
    return _marks_of(f)


def read_formula(text):
    """The formula with a text."""
    if not isinstance(text, str):
        raise ParseError(None)
    f = read_parts(text)
    _check_formula(f)
    return f


def write_formula(f):
    """The text of a formula."""
    _check_formula(f)
    return _text_of(f)


def holds(f, marks):
    """Whether a formula holds for the set of some marks."""
    _check_formula(f)
    check_marks(marks)
    return is_true(f, marks)


def parting(f, g, marks):
    """The least set of some of the marks for which just one of two formulas holds, or None."""
    _check_formula(f)
    _check_formula(g)
    check_marks(marks)
    _check_marks_in(f, marks)
    _check_marks_in(g, marks)
    for some in subsets(marks):
        if is_true(f, some) != is_true(g, some):
            return some
    return None


def plain_form(f, marks):
    """The ascending tuple of all prime rows of a formula over some marks."""
    _check_formula(f)
    check_marks(marks)
    _check_marks_in(f, marks)
    return prime_rows([some for some in subsets(marks) if is_true(f, some)], marks)


def is_plain_form(f, marks, value):
    """Whether any value is the plain form of a formula over some marks."""
    return value == plain_form(f, marks)


def is_true(f, marks):
    """Whether what is surely a formula holds for some marks."""
    word = f[0]
    if word == "mark":
        return f[1] in marks
    if word == "all":
        return True
    found = [is_true(part, marks) for part in _parts(f)]
    if word == "not":
        return not found[0]
    return all(found) if word == "and" else any(found)


def _check_formula(value):
    """Refuse what is no formula."""
    if not is_formula(value):
        raise InvalidFormula("the value is no formula over marks")


def _check_marks_in(f, marks):
    """Refuse a formula with a mark that is not among the marks."""
    if not all([mark in marks for mark in _marks_of(f)]):
        raise InvalidFormula("the formula has a mark that is not among the marks")


def _is_node(value):
    """Whether the value has the form of a formula, whatever its parts are."""
    if not isinstance(value, tuple) or len(value) != 2:
        return value == ("all",)
    word, part = value
    if word == "mark":
        return is_mark(part)
    if word in ("and", "or"):
        return isinstance(part, tuple) and len(part) >= 2
    return word == "not"


def _parts(f):
    """The formulas of which a formula is made."""
    if f[0] == "not":
        return (f[1],)
    return f[1] if f[0] in ("and", "or") else ()


def _marks_of(f):
    """The ascending tuple of the marks of what is surely a formula."""
    if f[0] == "mark":
        return (f[1],)
    found = {}
    for part in _parts(f):
        for mark in _marks_of(part):
            found[mark] = True
    return tuple(sorted(found))


def _text_of(f):
    """The text of what is surely a formula."""
    word = f[0]
    if word == "mark":
        return f[1]
    if word == "all":
        return ALL
    # A part is put into parentheses where it would be read as parts of what is around it.
    loose = ("or",) if word == "or" else ("and", "or")
    texts = [f"({_text_of(part)})" if part[0] in loose else _text_of(part) for part in _parts(f)]
    if word == "not":
        return f"!{texts[0]}"
    return " & ".join(texts) if word == "and" else " | ".join(texts)
