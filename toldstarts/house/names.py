"""The parts of machine names, and the reader of texts of names.

The key of a machine name is the pair (stem, index), with -1 as the index of a bare stem: the order of
the keys is that of the names.
"""

from toldstarts.base.checks import digits_end, is_digit, is_word, word_end
from toldstarts.base.numbers import number_end
from toldstarts.errors import ParseError

MAX_INDEX = 9999
MAX_INDEX_DIGITS = 4


def name_key(value):
    """The key of a machine name, or None for what is none."""
    if not isinstance(value, str):
        return None
    stem = value.rstrip("0123456789")
    digits = value[len(stem):]
    if not is_word(stem) or len(digits) > MAX_INDEX_DIGITS:
        return None
    if digits == "":
        return (stem, -1)
    if digits[0] == "0" and len(digits) > 1:
        return None
    return (stem, int(digits))


def name_of_key(key):
    """The machine name with a key."""
    stem, index = key
    return stem if index < 0 else f"{stem}{index}"


def runs_of(numbers):
    """The pairs (first, last) of the longest rows of consecutive numbers in a list of ascending ones."""
    runs = []
    for number in numbers:
        if runs and runs[-1][1] == number - 1:
            runs[-1] = (runs[-1][0], number)
        else:
            runs.append((number, number))
    return runs


def read_runs(text):
    """The triples (stem, first index, last index) of all runs that a text of names tells."""
    if text == "":
        return []
    runs, at = _read_entry(text, 0)
    while at < len(text):
        if text[at] != ",":
            raise ParseError(at)
        more, at = _read_entry(text, at + 1)
        runs.extend(more)
    return runs


def _read_entry(text, begin):
    """The runs of an entry, and the index behind it."""
    at = word_end(text, begin)
    if at == begin:
        raise ParseError(at)
    stem = text[begin:at]
    if text[at:at + 1] == "[":
        return _read_list(text, stem, at)
    if not is_digit(text[at:at + 1]):
        return [(stem, -1, -1)], at
    end = number_end(text, at, MAX_INDEX_DIGITS)
    index = int(text[at:end])
    return [(stem, index, index)], end


def _read_list(text, stem, opening):
    """The runs in brackets behind a stem, and the index behind the closing one."""
    runs = []
    at = opening
    while at == opening or text[at:at + 1] == ",":
        begin = at + 1
        at = number_end(text, begin, MAX_INDEX_DIGITS)
        first = last = int(text[begin:at])
        # Behind the greatest index no run goes on.
        if text[at:at + 1] == "-" and first < MAX_INDEX:
            begin = at + 1
            at = _greater_index_end(text, begin, first)
            last = int(text[begin:at])
        runs.append((stem, first, last))
    if text[at:at + 1] != "]":
        raise ParseError(at)
    return runs, at + 1


def _greater_index_end(text, begin, first):
    """The index behind the number that begins in a text and must be greater than the first one of its run."""
    if text[begin:begin + 1] == "0":
        raise ParseError(begin)
    end = digits_end(text, begin, MAX_INDEX_DIGITS)
    for at in range(begin, end):
        number = int(text[begin:at + 1])
        if _greatest_from(number, begin + MAX_INDEX_DIGITS - at - 1) <= first:
            raise ParseError(at)
    if end == begin or int(text[begin:end]) <= first:
        raise ParseError(end)
    return end


def _greatest_from(number, more):
    """The greatest number that begins with the digits of a number and has so many more."""
    greatest = number
    for _ in range(more):
        greatest = 10 * greatest + 9
    return greatest
