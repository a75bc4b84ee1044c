"""Numbers in texts."""

from toldstarts.base.checks import digits_end
from toldstarts.errors import ParseError


def number_end(text, begin, most):
    """The index behind the number without zeros ahead, of up to `most` digits, that must begin at an index."""
    if text[begin:begin + 1] == "0":
        return begin + 1
    end = digits_end(text, begin, most)
    if end == begin:
        raise ParseError(begin)
    return end
