"""The texts of the indices of like jobs."""

from toldstarts.base.numbers import number_end
from toldstarts.errors import ParseError, TooMany

MAX_DIGITS = 4
SHORTEST_RUN = 3


def least_text(indices):
    """The shortest ordered text that tells just some ascending indices, of several the least one."""
    texts = [""] * (len(indices) + 1)
    for begin in reversed(range(len(indices))):
        texts[begin] = _least_from(indices, begin, texts)
    return texts[0]


def indices_of(text, most):
    """The ascending tuple of the at most so many indices that a text tells."""
    if not isinstance(text, str):
        raise ParseError(None)
    found = {}
    for first, last, step in _read_entries(text):
        # An entry that tells too many by itself is not laid out.
        if (last - first) // step >= most:
            raise TooMany(most)
        for index in range(first, last + 1, step):
            found[index] = True
        if len(found) > most:
            raise TooMany(most)
    return tuple(sorted(found))


def _least_from(indices, begin, texts):
    """The least text of the indices from a place on, if those of all later places are known."""
    least = _with_rest(str(indices[begin]), texts[begin + 1])
    for end in reversed(range(begin + SHORTEST_RUN, _run_end(indices, begin) + 1)):
        text = _with_rest(_entry_of(indices[begin], indices[begin + 1], indices[end - 1]), texts[end])
        if (len(text), text) < (len(least), least):
            least = text
    return least


def _run_end(indices, begin):
    """The place behind the longest row of indices from a place on that all have the same distance."""
    end = begin + 2
    while end < len(indices) and indices[end] - indices[end - 1] == indices[begin + 1] - indices[begin]:
        end = end + 1
    return end


def _entry_of(first, second, last):
    """The entry of a row of three or more indices. One of two is never least: `4,5` comes ahead of `4-5`."""
    step = second - first
    return f"{first}-{last}" if step == 1 else f"{first}-{last}:{step}"


def _with_rest(entry, rest):
    """An entry and the text of the entries behind it."""
    return f"{entry},{rest}" if rest else entry


def _read_entries(text):
    """The triples (first, last, step) of all entries of a text."""
    entries, wrongs, at = [], [], -1
    while at < len(text):
        if at >= 0 and text[at] != ",":
            raise ParseError(at)
        entry, wrong, at = _read_entry(text, at + 1)
        entries.append(entry)
        wrongs.extend(wrong)
    if wrongs:
        raise ParseError(wrongs[0])
    return entries


def _read_entry(text, begin):
    """The entry that begins at an index, the indices at which its numbers are wrong, and the index behind it."""
    end = number_end(text, begin, MAX_DIGITS)
    first = int(text[begin:end])
    if text[end:end + 1] != "-":
        return (first, first, 1), [], end
    last_at = end + 1
    end = number_end(text, last_at, MAX_DIGITS)
    last, step, wrongs = int(text[last_at:end]), 1, []
    if first >= last:
        wrongs.append(last_at)
    if text[end:end + 1] == ":":
        step_at = end + 1
        end = number_end(text, step_at, MAX_DIGITS)
        step = int(text[step_at:end])
        if step == 0:
            wrongs.append(step_at)
    return (first, last, step), wrongs, end
