"""The errors that the package raises on purpose."""


class HouseError(ValueError):
    """What is common to the errors about values of a wrong form."""


class InvalidTick(HouseError):
    """What should be a tick is none, or stands at a wrong place."""


class InvalidAmounts(HouseError):
    """What should be amounts, or a kind of them, is none."""


class InvalidRoom(HouseError):
    """What should be a room, or a part of one, is none."""


class InvalidMachine(HouseError):
    """What should be a machine, or a part or a name of one, is none."""


class InvalidFormula(HouseError):
    """What should be a formula of the wanted kind is none."""


class InvalidChoice(HouseError):
    """What should be groups, a crew or a choice is none."""


class InvalidJob(HouseError):
    """What should be a job, or a part of one, is none."""


class InvalidHouse(HouseError):
    """What should be a house, or a part of one, is none."""


class InvalidDeed(HouseError):
    """What should be a deed is none."""


class InvalidPaper(HouseError):
    """What should be a paper is none."""


class ParseError(HouseError):
    """A text is wrong at a spot."""

    def __init__(self, spot):
        self.spot = spot


class InvalidNumber(IndexError):
    """A number is given that is none, or is out of bounds."""

    def __init__(self, given):
        self.given = given


class UnknownName(KeyError):
    """Something is wanted that there is not."""

    def __init__(self, wanted):
        self.wanted = wanted


class Lacking(LookupError):
    """Some amounts lack."""

    def __init__(self, lacks):
        self.lacks = lacks


class TooMany(OverflowError):
    """There would be more than the most that there can be."""

    def __init__(self, most):
        self.most = most


class Refused(ArithmeticError):
    """What is asked cannot be done, for a reason: a tuple that begins with a word."""

    def __init__(self, reason):
        self.reason = reason
