"""Choices of machines for groups that want some, and what shows that there is none."""

from toldstarts.base.amounts import Amounts
from toldstarts.base.checks import is_ascending, is_between
from toldstarts.errors import InvalidChoice
from toldstarts.house.formulas import is_formula, is_true
from toldstarts.house.machines import Machine
from toldstarts.house.slack import SetFields, least_choice, members_of, short_part

MAX_CREW = 40
MAX_GROUPS = 6
MAX_RACKS = 8


def is_groups(value):
    """Whether the value are groups."""
    if not isinstance(value, tuple) or not 1 <= len(value) <= MAX_GROUPS:
        return False
    return all([_is_group(group) for group in value])


def is_crew(value):
    """Whether the value is a crew."""
    if not isinstance(value, tuple) or len(value) > MAX_CREW:
        return False
    if not all([_is_member(member) for member in value]):
        return False
    names = [machine.name for machine, _ in value]
    racks = [machine.rack for machine, _ in value]
    return len(set(names)) == len(names) and len(set(racks)) <= MAX_RACKS


def fitting(groups, crew):
    """For each group the ascending indices of the members that fit it."""
    _check(groups, crew)
    return _fitting(groups, crew)


def best_choice(groups, crew):
    """The choice with the least key, or None if there is no choice."""
    _check(groups, crew)
    racks = [machine.rack for machine, _ in crew]
    return least_choice(_counts(groups), _fit_sets(groups, crew), racks, SetFields(len(groups)))


def is_choice(groups, crew, value):
    """Whether the value is a choice."""
    _check(groups, crew)
    if not isinstance(value, tuple) or len(value) != len(groups):
        return False
    seen = {}
    for group, fits, members in zip(groups, _fitting(groups, crew), value):
        if not _are_indices(members, len(crew)) or len(members) != group[0]:
            return False
        for member in members:
            if member in seen or member not in fits:
                return False
            seen[member] = True
    return True


def choice_key(groups, crew, choice):
    """The pair of the number of different racks of a choice, and the choice."""
    if not is_choice(groups, crew, choice):
        raise InvalidChoice("the value is no choice")
    racks = [crew[member][0].rack for members in choice for member in members]
    return (len(set(racks)), choice)


def short_set(groups, crew):
    """A set of groups that want more members than fit them, or None if there is a choice."""
    _check(groups, crew)
    part = short_part(_counts(groups), _fit_sets(groups, crew))
    return None if part is None else members_of(part)


def is_short_set(groups, crew, value):
    """Whether the value is a set of groups that want more members than fit them."""
    _check(groups, crew)
    if not _are_indices(value, len(groups)) or len(value) == 0:
        return False
    part = sum([1 << at for at in value])
    fitting_one = [fit for fit in _fit_sets(groups, crew) if fit & part]
    return sum([groups[at][0] for at in value]) > len(fitting_one)


def _is_group(value):
    """Whether the value is a group."""
    if not isinstance(value, tuple) or len(value) != 3:
        return False
    count, formula, amounts = value
    return is_between(count, 1, MAX_CREW) and is_formula(formula) and isinstance(amounts, Amounts)


def _is_member(value):
    """Whether the value is a member of a crew."""
    if not isinstance(value, tuple) or len(value) != 2:
        return False
    machine, free = value
    return isinstance(machine, Machine) and (free is None or isinstance(free, Amounts))


def _are_indices(value, many):
    """Whether the value is an ascending tuple of indices below a number."""
    if not isinstance(value, tuple) or not all([is_between(at, 0, many - 1) for at in value]):
        return False
    return is_ascending(value)


def _check(groups, crew):
    """Refuse what are no groups, or no crew."""
    if not is_groups(groups):
        raise InvalidChoice("the groups are no groups")
    if not is_crew(crew):
        raise InvalidChoice("the crew is no crew")


def _fits(group, member):
    """Whether a member fits a group."""
    _, formula, amounts = group
    machine, free = member
    return free is not None and free.covers(amounts) and is_true(formula, machine.marks)


def _fitting(groups, crew):
    """For each group the ascending indices of the members that fit it."""
    return tuple([tuple([at for at, member in enumerate(crew) if _fits(group, member)]) for group in groups])


def _counts(groups):
    """How many members each group wants."""
    return [group[0] for group in groups]


def _fit_sets(groups, crew):
    """For each member the set of the groups that it fits, as bits."""
    fits = [0] * len(crew)
    for at, members in enumerate(_fitting(groups, crew)):
        for member in members:
            fits[member] = fits[member] + (1 << at)
    return fits
