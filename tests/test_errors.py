"""Point 0.19: the errors, and what they keep."""

from toldstarts import errors
from helper import Case, ODD

PLAIN = ("InvalidTick", "InvalidAmounts", "InvalidRoom", "InvalidMachine", "InvalidFormula", "InvalidChoice",
         "InvalidJob", "InvalidHouse", "InvalidDeed", "InvalidPaper")
KEEPING = (("ParseError", "spot", errors.HouseError), ("InvalidNumber", "given", IndexError),
           ("UnknownName", "wanted", KeyError), ("Lacking", "lacks", LookupError),
           ("TooMany", "most", OverflowError), ("Refused", "reason", ArithmeticError))


class Errors(Case):
    def test_base(self):
        self.assertEqual(errors.HouseError.__bases__, (ValueError,))
        self.assertEqual(str(errors.HouseError("why")), "why")

    def test_plain_errors(self):
        for name in PLAIN:
            error = getattr(errors, name)
            self.assertEqual(error.__bases__, (errors.HouseError,), name)
            self.assertEqual(str(error("why")), "why")

    def test_errors_that_keep_a_value(self):
        for name, attribute, base in KEEPING:
            error = getattr(errors, name)
            self.assertEqual(error.__bases__, (base,), name)
            for value in ODD:
                self.assertIs(getattr(error(value), attribute), value)

    def test_all_are_defined_there(self):
        for name in PLAIN + tuple([row[0] for row in KEEPING]) + ("HouseError",):
            self.assertEqual(getattr(errors, name).__module__, "toldstarts.errors")
