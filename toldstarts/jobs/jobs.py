"""Jobs: what they want, and for how long."""

from toldstarts.base.amounts import Amounts, MAX_AMOUNT, MAX_KINDS, sure_amounts
from toldstarts.base.checks import is_between, is_name
from toldstarts.base.ticks import text_of_ticks
from toldstarts.errors import InvalidJob
from toldstarts.house.choices import is_groups
from toldstarts.wait.formulas import is_after_formula

MAX_LIMIT = 100000
MAX_GRADE = 100
MAX_DOORS = 4


class Job:
    """A job: whose it is, what it wants of machines and of the whole house, and when it may begin."""

    def __init__(self, name, *, account, person, doors, groups, tokens=None, limit, grade=0, after=None):
        if not is_name(name) or not is_name(account) or not is_name(person):
            raise InvalidJob("the name, the account or the person is no name")
        if not _are_doors(doors) or not is_groups(groups):
            raise InvalidJob("the doors or the groups are none")
        if tokens is not None and not isinstance(tokens, Amounts):
            raise InvalidJob("the tokens are no amounts")
        if not is_between(limit, 1, MAX_LIMIT) or not is_between(grade, 0, MAX_GRADE):
            raise InvalidJob("the limit or the grade is out of bounds")
        if after is not None and not is_after_formula(after):
            raise InvalidJob("what the job waits for is no formula")
        self._name = name
        self._account = account
        self._person = person
        self._doors = doors
        self._groups = groups
        self._tokens = Amounts() if tokens is None else tokens
        self._limit = limit
        self._grade = grade
        self._after = after
        self._total = _total_of(groups, self._tokens)
        self._size = max(1, sum([count * number for count, _, amounts in groups for _, number in amounts.pairs]))

    @property
    def name(self):
        """The name."""
        return self._name

    @property
    def account(self):
        """The name of the account that pays."""
        return self._account

    @property
    def person(self):
        """The name of the person whose job it is."""
        return self._person

    @property
    def doors(self):
        """The names of the doors, in the order in which they are tried."""
        return self._doors

    @property
    def groups(self):
        """The groups of machines that the job wants."""
        return self._groups

    @property
    def tokens(self):
        """The amounts that the job takes of the whole house."""
        return self._tokens

    @property
    def limit(self):
        """For how many ticks the job may run."""
        return self._limit

    @property
    def grade(self):
        """The grade: a job may take machines from one of a lower grade."""
        return self._grade

    @property
    def after(self):
        """The formula over the ends of other jobs that must be true first, or None."""
        return self._after

    @property
    def machines(self):
        """The number of machines of all groups."""
        return sum([count for count, _, _ in self._groups])

    @property
    def size(self):
        """What the job uses in each tick: the numbers of all amounts of all machines, but at least 1."""
        return self._size

    @property
    def total(self):
        """The amounts of all machines and the tokens, added up."""
        return self._total

    def changed(self, **wishes):
        """The job with some arguments changed."""
        arguments = {
            "name": self._name, "account": self._account, "person": self._person, "doors": self._doors,
            "groups": self._groups, "tokens": self._tokens, "limit": self._limit, "grade": self._grade,
            "after": self._after,
        }
        for word in wishes:
            if word not in arguments:
                raise InvalidJob("there is no argument of this name")
            arguments[word] = wishes[word]
        return Job(**arguments)

    def __eq__(self, other):
        return isinstance(other, Job) and self._key() == other._key()

    def __str__(self):
        return f"job {self._name} of {self.machines} machines for {text_of_ticks(self._limit)}"

    def _key(self):
        """What is equal for equal jobs."""
        return (self._name, self._account, self._person, self._doors, self._groups, self._tokens, self._limit,
                self._grade, self._after)


def check_job(value):
    """Refuse what is no job."""
    if not isinstance(value, Job):
        raise InvalidJob("the value is no object of Job")


def _are_doors(value):
    """Whether the value is a tuple of names of doors that a job can have."""
    if not isinstance(value, tuple) or not 1 <= len(value) <= MAX_DOORS:
        return False
    return all([is_name(name) for name in value]) and len(set(value)) == len(value)


def _total_of(groups, tokens):
    """The amounts of all machines of all groups and the tokens, added up."""
    numbers = dict(tokens.pairs)
    for count, _, amounts in groups:
        for kind, number in amounts.pairs:
            numbers[kind] = numbers.get(kind, 0) + count * number
    if len(numbers) > MAX_KINDS or not all([number <= MAX_AMOUNT for number in numbers.values()]):
        raise InvalidJob("the job wants too much in all")
    return sure_amounts(tuple([(kind, numbers[kind]) for kind in sorted(numbers)]))
