"""The reader of texts of formulas over the ends of jobs."""

from toldstarts.base.checks import MAX_JOB_NUMBER, blanks_end, is_digit, is_letter
from toldstarts.base.levels import Level
from toldstarts.errors import ParseError
from toldstarts.wait.fates import ATOM_WORDS

MAX_OPEN = 64


def read_parts(text):
    """What a text tells by its grammar, whether or not it is a formula."""
    levels, wants_part = [Level()], True
    at = blanks_end(text, 0)
    while at < len(text):
        sign, end = text[at], at + 1
        if wants_part and sign == "(":
            if len(levels) > MAX_OPEN:
                raise ParseError(at)
            levels.append(Level())
        elif wants_part:
            atom, end = _read_atom(text, at)
            levels[-1].add_part(atom)
            wants_part = False
        elif sign == ")" and len(levels) > 1:
            part = levels.pop().whole()
            levels[-1].add_part(part)
        elif sign in ("&", "|"):
            if sign == "|":
                levels[-1].close_and()
            wants_part = True
        else:
            raise ParseError(at)
        at = blanks_end(text, end)
    if wants_part or len(levels) > 1:
        raise ParseError(at)
    return levels[0].whole()


def _read_atom(text, begin):
    """The atom that begins at an index, and the index behind it."""
    end = _letters_end(text, begin)
    word = text[begin:end]
    if word not in ATOM_WORDS:
        raise ParseError(begin)
    at = blanks_end(text, _sign_end(text, blanks_end(text, end), "("))
    end = _number_end(text, at)
    return (word, int(text[at:end])), _sign_end(text, blanks_end(text, end), ")")


def _sign_end(text, at, sign):
    """The index behind a sign that must stand at an index."""
    if text[at:at + 1] != sign:
        raise ParseError(at)
    return at + 1


def _letters_end(text, begin):
    """The index behind all letters that begin at an index."""
    end = begin
    while is_letter(text[end:end + 1]):
        end = end + 1
    return end


def _number_end(text, begin):
    """The index behind the job number that must begin at an index."""
    end = begin
    while is_digit(text[end:end + 1]):
        end = end + 1
    # The digits are counted first, as there may be thousands of them.
    if text[begin:begin + 1] in ("", "0") or not 1 <= end - begin <= len(str(MAX_JOB_NUMBER)):
        raise ParseError(begin)
    if int(text[begin:end]) > MAX_JOB_NUMBER:
        raise ParseError(begin)
    return end
