"""What several test files use."""

import unittest

from toldstarts.base.amounts import Amounts
from toldstarts.house.machines import Machine
from toldstarts.jobs.jobs import Job
from toldstarts.room.rooms import Room


def deep(depth):
    """A value of tuples, lists and dicts that is nested so deep."""
    value = 1
    for level in range(depth):
        value = ((value,), [value], {"a": value})[level % 3]
    return value


def some(**numbers):
    """The amounts with some numbers of some kinds."""
    return Amounts(tuple(sorted(numbers.items())))


def a_job(name="sim", **wishes):
    """A small job, with some arguments of its own."""
    arguments = {"account": "lab", "person": "ada", "doors": ("day",), "groups": ((1, ("all",), some(core=1)),),
                 "limit": 60}
    arguments.update(wishes)
    return Job(name, **arguments)


# Values of all kinds with which any parameter may be called.
ODD = (
    True, False, None, 0, 1, -1, 7, 10 ** 59, 10 ** 60, -(10 ** 60), 10 ** 99, "", "x", "all", "nothing", "a" * 4001,
    "~" * 4001, (), (1,), ((),), ("core", 1), (("core", True),), [], [1], ["core"], {}, {"core": 1}, {1: []},
    deep(30), Amounts(), Amounts((("core", 4),)), Room(Amounts()), Machine("m1", Amounts()), a_job(),
)


class Case(unittest.TestCase):
    """A test that can look at errors."""

    def refused(self, error, call, *args, **keywords):
        """The error that a call raises, which must be of just this class."""
        with self.assertRaises(error) as caught:
            call(*args, **keywords)
        self.assertIs(type(caught.exception), error)
        return caught.exception

    def wrong_at(self, spot, call, text):
        """A text must be wrong at a spot."""
        from toldstarts.errors import ParseError

        found = self.refused(ParseError, call, text).spot
        self.assertEqual(found, spot, text)
        self.assertIs(type(found), type(spot))
