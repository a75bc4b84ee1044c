"""The states of jobs, the ends to which they can come, and what is true in them."""

from toldstarts.base.checks import is_job_number
from toldstarts.errors import InvalidJob

STATES = ("waiting", "begun", "left", "well", "ill", "late", "gone")

ATOM_WORDS = ("begun", "over", "well", "ill", "late", "left")
FOLLOWERS = {"waiting": ("begun", "left"), "begun": ("well", "ill", "late", "gone")}
ENDS = {
    "waiting": ("left", "well", "ill", "late", "gone"),
    "begun": ("well", "ill", "late", "gone"),
    "left": ("left",),
    "well": ("well",),
    "ill": ("ill",),
    "late": ("late",),
    "gone": ("gone",),
}
TRUE_WORDS = {
    "waiting": (),
    "begun": ("begun",),
    "left": ("over", "left"),
    "well": ("begun", "over", "well"),
    "ill": ("begun", "over", "ill"),
    "late": ("begun", "over", "late"),
    "gone": ("begun", "over"),
}


def is_state(value):
    """Whether any value is a state."""
    return isinstance(value, str) and value in STATES


def ends_of(state):
    """The ends to which a state can come."""
    _check_state(state)
    return ENDS[state]


def atoms_of(state):
    """The words of the atoms that are true in a state."""
    _check_state(state)
    return TRUE_WORDS[state]


def may_follow(one, other):
    """Whether the second state can come directly behind the first one."""
    _check_state(one)
    _check_state(other)
    return other in FOLLOWERS.get(one, ())


def check_known(value):
    """Refuse what is no dict from job numbers to states."""
    if not isinstance(value, dict):
        raise InvalidJob("what is known is no dict")
    for number, state in value.items():
        if not is_job_number(number) or not is_state(state):
            raise InvalidJob("what is known is not a state of each of some job numbers")


def _check_state(value):
    """Refuse what is no state."""
    if not is_state(value):
        raise InvalidJob("the value is no state")
