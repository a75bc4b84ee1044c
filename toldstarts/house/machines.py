"""Machines, and the names of machines with their folded texts."""

from toldstarts.base.amounts import Amounts
from toldstarts.base.checks import is_ascending, is_word
from toldstarts.errors import InvalidMachine, ParseError, TooMany
from toldstarts.house.names import name_key, name_of_key, read_runs, runs_of

MAX_MARKS = 8
MAX_NAMES = 1000

ALL = "all"


class Machine:
    """A machine: its name, what it has, its marks, and the rack in which it stands."""

    def __init__(self, name, amounts, *, marks=(), rack="main"):
        if not is_machine_name(name):
            raise InvalidMachine("the name is no machine name")
        if not isinstance(amounts, Amounts):
            raise InvalidMachine("the amounts are no object of Amounts")
        check_marks(marks)
        if not is_word(rack):
            raise InvalidMachine("the rack is no word")
        self._name = name
        self._amounts = amounts
        self._marks = marks
        self._rack = rack

    @property
    def name(self):
        """The name."""
        return self._name

    @property
    def amounts(self):
        """What the machine has."""
        return self._amounts

    @property
    def marks(self):
        """The marks, ascending."""
        return self._marks

    @property
    def rack(self):
        """The rack in which the machine stands."""
        return self._rack

    def __eq__(self, other):
        return (isinstance(other, Machine) and self._name == other._name and self._amounts == other._amounts
                and self._marks == other._marks and self._rack == other._rack)

    def __str__(self):
        return f"{self._name} in {self._rack}"


def is_machine_name(value):
    """Whether any value is a machine name."""
    return name_key(value) is not None


def sorted_names(names):
    """The names in their order, each once."""
    return tuple([name_of_key(key) for key in _sorted_keys(names)])


def fold_names(names):
    """The folded text of the set of some names."""
    indices = {}
    for stem, index in _sorted_keys(names):
        indices.setdefault(stem, []).append(index)
    return ",".join([_folded(stem, indices[stem]) for stem in sorted(indices)])


def unfold_names(text):
    """The ordered names of a text of names, each once."""
    if not isinstance(text, str):
        raise ParseError(None)
    keys = {}
    for stem, first, last in read_runs(text):
        # A run that is too long by itself is not laid out.
        if last - first >= MAX_NAMES:
            raise TooMany(MAX_NAMES)
        for index in range(first, last + 1):
            keys[(stem, index)] = True
        if len(keys) > MAX_NAMES:
            raise TooMany(MAX_NAMES)
    return tuple([name_of_key(key) for key in sorted(keys)])


def is_mark(value):
    """Whether the value can be the mark of a machine."""
    return is_word(value) and value != ALL


def check_marks(value):
    """Refuse what is no tuple of marks that a machine can have."""
    if not isinstance(value, tuple) or len(value) > MAX_MARKS:
        raise InvalidMachine("the marks are no tuple of few enough words")
    if not all([is_mark(mark) for mark in value]) or not is_ascending(value):
        raise InvalidMachine("the marks are no ascending words")


def _sorted_keys(names):
    """The ordered keys of some names, each once."""
    if not isinstance(names, tuple) or len(names) > MAX_NAMES:
        raise InvalidMachine("the names are no tuple of few enough names")
    keys = {}
    for name in names:
        key = name_key(name)
        if key is None:
            raise InvalidMachine("one of the names is no machine name")
        keys[key] = True
    return sorted(keys)


def _folded(stem, indices):
    """The entries of a stem with ascending indices, of which -1 stands for none."""
    entries = []
    if indices[0] < 0:
        entries.append(stem)
    numbers = [index for index in indices if index >= 0]
    if len(numbers) == 1:
        entries.append(f"{stem}{numbers[0]}")
    elif numbers:
        runs = ",".join([str(first) if first == last else f"{first}-{last}" for first, last in runs_of(numbers)])
        entries.append(f"{stem}[{runs}]")
    return ",".join(entries)
