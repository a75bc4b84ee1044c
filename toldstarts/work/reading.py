"""The reader of the texts of logs.

A reader of a line tells its part, or None if the line is wrong. What it has read is written once more: a line that is
not written just so is wrong.
"""

from toldstarts.base.amounts import Amounts
from toldstarts.base.checks import is_between, is_whole
from toldstarts.errors import InvalidMachine, InvalidNumber, ParseError, TooMany
from toldstarts.house.machines import Machine, is_machine_name, unfold_names
from toldstarts.jobs.likes import unfold_indices
from toldstarts.jobs.reader import read_job
from toldstarts.plan.limits import is_door_row, is_limit_row
from toldstarts.rank.scores import Weights
from toldstarts.rank.tree import is_account_row
from toldstarts.work.deeds import is_deed
from toldstarts.work.writing import INDENT, NONE, account_line, deed_lines, door_line, fill_line, limit_line
from toldstarts.work.writing import machine_line, number_line, tokens_line, weights_line, window_line

MOST_DIGITS = 60
DEEPEST = 20
LONGEST_PERIOD = 10000


def read_parts(text):
    """For each word of a line of the setting the parts that a text tells, and the tuple of its deeds."""
    if not isinstance(text, str):
        raise ParseError(None)
    lines, at, parts = text.split("\n"), 0, {}
    for word, least, is_many in SECTIONS:
        reader = READERS[word]
        found = []
        while at < len(lines) and (is_many or not found):
            part = reader(lines[at])
            if part is None:
                break
            found.append(part)
            at = at + 1
        if len(found) < least:
            raise ParseError(at)
        parts[word] = found
    return parts, _read_deeds(lines, at)


def _read_deeds(lines, begin):
    """The deeds that stand in lines from an index on."""
    deeds, at, jobs = [], begin, {}
    while at < len(lines):
        end = at + 1
        while end < len(lines) and lines[end].startswith(INDENT):
            end = end + 1
        words = lines[at].split(" ")
        job = None
        if words[0] in ("come", "row"):
            text = "\n".join([line[len(INDENT):] for line in lines[at + 1:end]])
            # Many deeds tell the same job, which is read once.
            if text not in jobs:
                jobs[text] = _job_of(text)
            job = jobs[text]
        else:
            # Lines that should not be there are found to be wrong as deeds.
            end = at + 1
        deed = _deed_of(words, job)
        if deed is None or not is_deed(deed) or deed_lines(deed) != lines[at:end]:
            raise ParseError(at)
        deeds.append(deed)
        at = end
    return tuple(deeds)


def _job_of(text):
    """The job with a text, or None."""
    try:
        return read_job(text)
    except ParseError:
        return None


def _deed_of(words, job):
    """What the words of a line tell if it is that of a deed."""
    word = words[0]
    if word == "come" and len(words) == 1:
        return (word, job)
    if word == "row" and len(words) == 3:
        return (word, job, _indices_of(words[1]), _or_none(words[2]))
    if word in ("shut", "open") and len(words) == 4:
        return (word, _names_of(words[1]), _number_of(words[2]), _or_none(words[3]))
    if word in ("fail", "mend") and len(words) == 2:
        return (word, words[1])
    if word == "end" and len(words) == 3:
        return (word, _number_of(words[1]), words[2])
    return (word, _number_of(words[1])) if len(words) == 2 else None


def _indices_of(text):
    """The indices with a text, or None."""
    try:
        return unfold_indices(text)
    except (ParseError, TooMany):
        return None


def _names_of(text):
    """The names of machines with a text, or None."""
    try:
        return unfold_names(text)
    except (ParseError, TooMany):
        return None


def _number_of(text):
    """The integer with a text, or None; the digits are counted first, as there may be thousands of them."""
    digits = text[1:] if text[:1] == "-" else text
    if not digits.isdigit() or not digits.isascii() or len(digits) > MOST_DIGITS:
        return None
    return int(text)


def _or_none(text):
    """The integer with a text, None for none, and the text itself if it is wrong."""
    if text == NONE:
        return None
    number = _number_of(text)
    return text if number is None else number


def _amounts_of(text):
    """The amounts with a text, or None."""
    try:
        return Amounts.of_text(text)
    except ParseError:
        return None


def _words_of(line, word, many):
    """The words of a line behind the first one, or Nones if this is another one or there are not so many."""
    words = line.split(" ")
    return words[1:] if words[0] == word and len(words) == many + 1 else [None] * many


def _read_machine(line):
    """The machine of a line."""
    words = line.split(" ")
    amounts = _amounts_of(" ".join(words[4:]))
    if words[0] != "machine" or amounts is None:
        return None
    marks = () if words[3] == NONE else tuple(words[3].split(","))
    try:
        machine = Machine(words[1], amounts, marks=marks, rack=words[2])
    except InvalidMachine:
        return None
    return machine if machine_line(machine) == line else None


def _read_tokens(line):
    """The tokens of a line."""
    amounts = _amounts_of(line.partition(" ")[2])
    return amounts if amounts is not None and tokens_line(amounts) == line else None


def _read_door(line):
    """The door of a line."""
    name, longest = _words_of(line, "door", 2)
    row = (name, _number_of(longest or ""))
    return row if is_door_row(row) and door_line(row) == line else None


def _read_account(line):
    """The account of a line."""
    name, parent, share = _words_of(line, "account", 3)
    row = (name, "" if parent == NONE else parent, _number_of(share or ""))
    return row if is_account_row(row) and account_line(row) == line else None


def _read_limit(line):
    """The limit of a line."""
    where, name, what, most = _words_of(line, "limit", 4)
    row = ((where, name), what, _number_of(most or ""))
    return row if is_limit_row(row) and limit_line(row) == line else None


def _read_weights(line):
    """The weights of a line."""
    age, cap, size, grade, place = [_number_of(word or "") for word in _words_of(line, "weights", 5)]
    try:
        weights = Weights(age=age, cap=cap, size=size, grade=grade, place=place)
    except InvalidNumber:
        return None
    return weights if weights_line(weights) == line else None


def _read_depth(line):
    """The depth of a line."""
    return _read_number(line, "depth", DEEPEST)


def _read_period(line):
    """The period of a line."""
    return _read_number(line, "period", LONGEST_PERIOD)


def _read_number(line, word, most):
    """The number from 1 to the most of a line."""
    number = _number_of(_words_of(line, word, 1)[0] or "")
    return number if is_between(number, 1, most) and number_line(word, number) == line else None


def _read_fill(line):
    """Whether a board fills, as a line tells it."""
    for fill in (True, False):
        if fill_line(fill) == line:
            return fill
    return None


def _read_window(line):
    """The window of a line."""
    name, begin, length = _words_of(line, "window", 3)
    row = (name, _number_of(begin or ""), _number_of(length or ""))
    if not is_machine_name(name) or not is_whole(row[1]) or not is_whole(row[2]) or row[1] < 0 or row[2] < 1:
        return None
    return row if window_line(row) == line else None


# The words of the lines of a setting in their order, how many there are at least, and whether there can be more.
SECTIONS = (
    ("machine", 1, True), ("tokens", 1, False), ("door", 1, True), ("account", 1, True), ("limit", 0, True),
    ("weights", 1, False), ("depth", 1, False), ("fill", 1, False), ("period", 1, False), ("window", 0, True),
)
READERS = {
    "machine": _read_machine,
    "tokens": _read_tokens,
    "door": _read_door,
    "account": _read_account,
    "limit": _read_limit,
    "weights": _read_weights,
    "depth": _read_depth,
    "fill": _read_fill,
    "period": _read_period,
    "window": _read_window,
}
