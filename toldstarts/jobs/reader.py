"""The texts of jobs."""

from toldstarts.base.amounts import Amounts
from toldstarts.base.checks import blanks_end, is_letter, is_name
from toldstarts.base.ticks import text_of_ticks, ticks_of
from toldstarts.errors import InvalidFormula, InvalidJob, ParseError
from toldstarts.house.choices import MAX_CREW, MAX_GROUPS
from toldstarts.house.formulas import read_formula, write_formula
from toldstarts.jobs.jobs import MAX_DOORS, MAX_GRADE, MAX_LIMIT, Job, check_job
from toldstarts.wait.formulas import read_after, write_after

WISHES = ("name", "account", "person", "doors", "group", "tokens", "limit", "grade", "after")

MAX_TEXT = 4000
GROUP_PARTS = 3


def read_job(text):
    """The job with a text."""
    if not isinstance(text, str) or len(text) > MAX_TEXT or not _is_printable(text.replace("\n", " ")):
        raise ParseError(None)
    arguments, groups, begin = {}, [], 0
    for line in text.split("\n"):
        content = line.partition("#")[0].rstrip(" ")
        at = blanks_end(content, 0)
        if at < len(content):
            _read_line(content, at, begin, arguments, groups)
        begin = begin + len(line) + 1
    for wish in ("name", "account", "person", "doors", "limit"):
        if wish not in arguments:
            raise ParseError(len(text))
    arguments["groups"] = tuple(groups)
    try:
        return Job(**arguments)
    except InvalidJob:
        raise ParseError(len(text))


def write_job(job):
    """The text of a job."""
    check_job(job)
    lines = [f"name {job.name}", f"account {job.account}", f"person {job.person}", "doors " + ", ".join(job.doors)]
    for count, formula, amounts in job.groups:
        lines.append(f"group {count} : {write_formula(formula)} : {str(amounts)}")
    if job.tokens.pairs:
        lines.append(f"tokens {str(job.tokens)}")
    lines.append(f"limit {text_of_ticks(job.limit)}")
    if job.grade > 0:
        lines.append(f"grade {job.grade}")
    if job.after is not None:
        lines.append(f"after {write_after(job.after)}")
    return "\n".join(lines)


def _is_printable(text):
    """Whether a text has only characters with codes from 32 to 126."""
    return text.isascii() and text.isprintable()


def _read_line(content, at, begin, arguments, groups):
    """Put what a line tells to the arguments or the groups; `begin` is where the line begins in the text."""
    wish = content[at:].partition(" ")[0]
    end = at + len(wish)
    if wish not in WISHES:
        end = at
        while is_letter(content[end:end + 1]):
            end = end + 1
        wish = content[at:end]
    is_group = wish == "group"
    if wish not in WISHES or wish in arguments or (is_group and len(groups) == MAX_GROUPS):
        raise ParseError(begin + at)
    if content[end:end + 1] != " ":
        raise ParseError(begin + end)
    value_at = blanks_end(content, end)
    reader = READERS[wish]
    found = reader(content[value_at:], begin + value_at)
    if is_group:
        groups.append(found)
    else:
        arguments[wish] = found


def _read_name(value, at):
    """The name that stands at an index."""
    if not is_name(value):
        raise ParseError(at)
    return value


def _read_doors(value, at):
    """The names of doors with commas between them."""
    doors = []
    for begin, entry in _parts(value, ",", at):
        if not is_name(entry) or entry in doors or len(doors) == MAX_DOORS:
            raise ParseError(begin)
        doors.append(entry)
    return tuple(doors)


def _read_group(value, at):
    """The group with its three parts."""
    colons = [place for place, sign in enumerate(value) if sign == ":"]
    if len(colons) < GROUP_PARTS - 1:
        raise ParseError(at + len(value))
    if len(colons) >= GROUP_PARTS:
        raise ParseError(at + colons[GROUP_PARTS - 1])
    readers = (_read_count, _read_marks, _read_amounts)
    found = []
    for place, (begin, part) in enumerate(_parts(value, ":", at)):
        reader = readers[place]
        found.append(reader(part, begin))
    return tuple(found)


def _parts(value, sign, at):
    """The pairs (index, part) of the parts with a sign between them, without blanks around them.

    An empty part has the index of the sign, or of the end, behind it: there all readers find it wrong.
    """
    found, begin = [], at
    for part in value.split(sign):
        plain = part.lstrip(" ")
        found.append((begin + len(part) - len(plain), plain.rstrip(" ")))
        begin = begin + len(part) + 1
    return found


def _read_count(value, at):
    """The number of machines of a group."""
    return _number_of(value, at, 1, MAX_CREW)


def _read_grade(value, at):
    """The grade."""
    return _number_of(value, at, 0, MAX_GRADE)


def _number_of(value, at, low, high):
    """The number that is written at an index, without zeros ahead, and lies between two others."""
    if not value.isdigit() or str(int(value)) != value or not low <= int(value) <= high:
        raise ParseError(at)
    return int(value)


def _read_marks(value, at):
    """The formula over marks."""
    try:
        return read_formula(value)
    except ParseError as e:
        raise ParseError(at + e.spot)
    except InvalidFormula:
        raise ParseError(at + len(value))


def _read_amounts(value, at):
    """The amounts, whose kinds have letters alone."""
    try:
        found = Amounts.of_text(value)
    except ParseError as e:
        raise ParseError(at + e.spot)
    for begin, entry in _parts(value, ",", at):
        if not entry.partition(" ")[0].isalpha():
            raise ParseError(begin)
    return found


def _read_limit(value, at):
    """The ticks for which the job may run."""
    try:
        found = ticks_of(value)
    except ParseError as e:
        raise ParseError(at + e.spot)
    if not 1 <= found <= MAX_LIMIT:
        raise ParseError(at)
    return found


def _read_ends(value, at):
    """The formula over the ends of other jobs."""
    try:
        return read_after(value)
    except ParseError as e:
        raise ParseError(at + e.spot)


READERS = {
    "name": _read_name,
    "account": _read_name,
    "person": _read_name,
    "doors": _read_doors,
    "group": _read_group,
    "tokens": _read_amounts,
    "limit": _read_limit,
    "grade": _read_grade,
    "after": _read_ends,
}
