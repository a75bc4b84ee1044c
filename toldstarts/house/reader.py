"""The reader of texts of formulas over marks."""

from toldstarts.base.checks import is_letter, word_end
from toldstarts.base.levels import Level
from toldstarts.errors import ParseError

MAX_OPEN = 64


class Reader:
    """Takes the tokens of a text one after the other, and tells the formula in the end."""

    def __init__(self):
        self.stack = [Level()]
        self.many_open = 0
        self.wants_part = True

    def take(self, token, spot):
        """Go on with the token at a spot."""
        if self.wants_part:
            self._take_part(token, spot)
        else:
            self._take_joint(token, spot)

    def result(self, spot):
        """The formula of a text that ends at a spot."""
        if self.wants_part or len(self.stack) > 1:
            raise ParseError(spot)
        return self.stack[-1].whole()

    def _take_part(self, token, spot):
        """Go on where a part, or a sign ahead of one, must stand."""
        if is_letter(token[0]):
            self._end_part(("all",) if token == "all" else ("mark", token))
            return
        if token not in ("!", "(") or self.many_open == MAX_OPEN:
            raise ParseError(spot)
        self.many_open = self.many_open + 1
        if token == "(":
            self.stack.append(Level())
        else:
            level = self.stack[-1]
            level.negations = level.negations + 1

    def _take_joint(self, token, spot):
        """Go on behind a part."""
        if token == ")" and len(self.stack) > 1:
            self.many_open = self.many_open - 1
            self._end_part(self.stack.pop().whole())
            return
        if token not in ("&", "|"):
            raise ParseError(spot)
        if token == "|":
            self.stack[-1].close_and()
        self.wants_part = True

    def _end_part(self, f):
        """Let a formula be a part; what negates it is not open any longer."""
        level = self.stack[-1]
        self.many_open = self.many_open - level.negations
        level.add_part(f)
        self.wants_part = False


def read_parts(text):
    """What a text tells by its grammar, whether or not it is a formula."""
    reader = Reader()
    at = 0
    while at < len(text):
        # Letters beyond those of a word are a token of their own, which is wrong behind a word.
        end = word_end(text, at) if is_letter(text[at]) else at + 1
        if text[at] != " ":
            reader.take(text[at:end], at)
        at = end
    return reader.result(len(text))
