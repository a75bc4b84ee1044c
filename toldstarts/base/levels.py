"""What is read of a formula between parentheses, for all readers of formulas."""


class Level:
    """What has been read in the innermost parentheses that are open, or outside of all."""

    def __init__(self):
        self.ored = []
        self.anded = []
        self.negations = 0

    def add_part(self, f):
        """Let a formula, with the negations ahead of it, be the next part."""
        for _ in range(self.negations):
            f = ("not", f)
        self.negations = 0
        self.anded.append(f)

    def close_and(self):
        """Let the parts since the last `|` be one part of an `or`."""
        self.ored.append(_joined("and", self.anded))
        self.anded = []

    def whole(self):
        """The formula of all that was read."""
        self.close_and()
        return _joined("or", self.ored)


def _joined(word, parts):
    """The only part, or the formula of several parts."""
    return parts[0] if len(parts) == 1 else (word, tuple(parts))
