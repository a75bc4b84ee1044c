"""Sets of waiting jobs that wait for one another, so that none of them ever begins."""

from toldstarts.base.checks import is_ascending, is_job_number
from toldstarts.errors import InvalidJob, UnknownName
from toldstarts.wait.fates import check_known
from toldstarts.wait.formulas import is_after_formula
from toldstarts.wait.truths import may_be_true, words_by_job

MAX_WAITING = 60


def stuck_set(wishes, known):
    """The greatest stuck set of the jobs with wishes, as an ascending tuple."""
    _check(wishes, known)
    states = _states_of(wishes, known)
    held = {number: True for number, f in wishes.items() if f is not None}
    users = _users_of(wishes)
    # A job can be found free only once those that its formula names are no longer held.
    doubtful = sorted(held)
    while doubtful:
        number = doubtful.pop()
        if number in held and may_be_true(wishes[number], states, held):
            del held[number]
            doubtful.extend(users.get(number, []))
    return tuple(sorted(held))


def is_stuck_set(wishes, known, value):
    """Whether any value is an ascending tuple of numbers of the wishes that is a stuck set."""
    _check(wishes, known)
    if not isinstance(value, tuple) or not all([is_job_number(number) for number in value]):
        return False
    if not is_ascending(value) or not all([wishes.get(number) is not None for number in value]):
        return False
    states = _states_of(wishes, known)
    held = {number: True for number in value}
    return not any([may_be_true(wishes[number], states, held) for number in value])


def _check(wishes, known):
    """Refuse what are no wishes, nothing known, a job in both, and a job of a formula in neither."""
    if not isinstance(wishes, dict) or len(wishes) > MAX_WAITING:
        raise InvalidJob("the wishes are no dict of few enough jobs")
    for number, f in wishes.items():
        if not is_job_number(number) or not (f is None or is_after_formula(f)):
            raise InvalidJob("the wishes are no formulas of some job numbers")
    check_known(known)
    if any([number in known for number in wishes]):
        raise InvalidJob("a job with a wish has a known state, too")
    for number in sorted(_users_of(wishes)):
        if number not in wishes and number not in known:
            raise UnknownName(number)


def _users_of(wishes):
    """For each job that a formula names the numbers of the jobs with such formulas."""
    found = {}
    for number, f in wishes.items():
        if f is not None:
            for job in words_by_job(f):
                found.setdefault(job, []).append(number)
    return found


def _states_of(wishes, known):
    """The states of all jobs: those with wishes wait."""
    states = {number: known[number] for number in known}
    for number in wishes:
        states[number] = "waiting"
    return states
