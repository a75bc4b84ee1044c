"""Ticks, in which time is counted, and their texts."""

from toldstarts.base.checks import digits_end, is_between
from toldstarts.errors import InvalidTick, ParseError

MAX_TICK = 1000000

MINUTE = 60
HOUR = 3600
DAY = 86400
MAX_FIRST_DIGITS = 7
MAX_LATER_DIGITS = 2


def is_tick(value):
    """Whether the value is a tick."""
    return is_between(value, 0, MAX_TICK)


def check_tick(value):
    """Refuse what is no tick."""
    if not is_tick(value):
        raise InvalidTick("the value is no tick")


def text_of_ticks(number):
    """The text of a number of ticks, like 02:03:04 or 1-02:03:04."""
    check_tick(number)
    days, rest = divmod(number, DAY)
    hours, rest = divmod(rest, HOUR)
    minutes, seconds = divmod(rest, MINUTE)
    clock = f"{hours:02d}:{minutes:02d}:{seconds:02d}"
    return f"{days}-{clock}" if days > 0 else clock


def ticks_of(text):
    """The number of ticks with a text."""
    if not isinstance(text, str):
        raise ParseError(None)
    numbers, has_days = _read_numbers(text)
    for place, (begin, number) in enumerate(numbers[1:]):
        if number >= (24 if has_days and place == 0 else 60):
            raise ParseError(begin)
    worths = _worths(len(numbers), has_days)
    total = sum([worth * number for worth, (_, number) in zip(worths, numbers)])
    if total > MAX_TICK:
        raise ParseError(len(text))
    return total


def _read_numbers(text):
    """The pairs (index, number) of the numbers that stand in a text, and whether days are the first one."""
    end = _number_end(text, 0, MAX_FIRST_DIGITS)
    numbers = [(0, int(text[:end]))]
    has_days = text[end:end + 1] == "-"
    most = 4 if has_days else 3
    while end < len(text):
        joint = "-" if has_days and len(numbers) == 1 else ":"
        if text[end] != joint or len(numbers) == most:
            raise ParseError(end)
        begin = end + 1
        end = _number_end(text, begin, MAX_LATER_DIGITS)
        numbers.append((begin, int(text[begin:end])))
    return numbers, has_days


def _number_end(text, begin, most):
    """The index behind a number that must begin at an index."""
    end = digits_end(text, begin, most)
    if end == begin:
        raise ParseError(begin)
    return end


def _worths(many, has_days):
    """How many ticks each of so many numbers of a text counts."""
    if has_days:
        return (DAY, HOUR, MINUTE, 1)
    if many == 3:
        return (HOUR, MINUTE, 1)
    return (MINUTE, 1)
