"""In which outcomes formulas over the ends of jobs are true.

A way of a job is a tuple of the words of the atoms that are true of it. The choices of some jobs are a
list of pairs (job, ways). An outcome chooses a way of each job; the outcomes are counted in the order of
the choices, where the way of the last job changes fastest. A set of outcomes is an integer: the bit with
the value 1 << i stands for the outcome i. So all outcomes are looked at together.
"""

from toldstarts.wait.fates import ENDS, TRUE_WORDS

# Where an end makes nothing true that another one does not, a formula that is true in any outcome is true
# in one without it; a formula that is false in any outcome is false in one of the ends that make less true.
BEST_ENDS = {"waiting": ("left", "well", "ill", "late"), "begun": ("well", "ill", "late")}
WORST_ENDS = {"waiting": ("left", "gone"), "begun": ("gone",)}


def words_by_job(f):
    """For each job of a formula the words of its atoms, as keys of a dict."""
    found, parts = {}, [f]
    while parts:
        word, rest = parts.pop()
        if word in ("and", "or"):
            parts.extend(rest)
        else:
            found.setdefault(rest, {})[word] = True
    return found


def is_true(f, words):
    """Whether a formula is true if just some words, told for each job, are true."""
    word, rest = f
    if word == "and":
        for part in rest:
            if not is_true(part, words):
                return False
        return True
    if word == "or":
        for part in rest:
            if is_true(part, words):
                return True
        return False
    return word in words[rest]


def is_true_in(f, states):
    """Whether a formula is true in the states of some jobs, of which those that are not told wait."""
    word, rest = f
    if word == "and":
        for part in rest:
            if not is_true_in(part, states):
                return False
        return True
    if word == "or":
        for part in rest:
            if is_true_in(part, states):
                return True
        return False
    return word in TRUE_WORDS[states.get(rest, "waiting")]


def may_be_true(f, states, held):
    """Whether a formula is true in some outcome of states while the jobs of a dict are held."""
    choices = []
    for job, words in words_by_job(f).items():
        state = states[job]
        ends = (state,) if job in held else BEST_ENDS.get(state, ENDS[state])
        choices.append((job, _ways(ends, words)))
    return true_outcomes(f, choices) != 0


def must_be_true(f, states):
    """Whether a formula is true in all outcomes of states."""
    choices = []
    for job, words in words_by_job(f).items():
        state = states[job]
        choices.append((job, _ways(WORST_ENDS.get(state, ENDS[state]), words)))
    return true_outcomes(f, choices) == (1 << count_outcomes(choices)) - 1


def count_outcomes(choices):
    """How many outcomes there are."""
    many = 1
    for _, ways in choices:
        many = many * len(ways)
    return many


def true_outcomes(f, choices):
    """The set of the outcomes in which a formula is true."""
    return _true_in(f, _atom_tables(choices))


def way_of(state, words):
    """What is true in a state of some words, the keys of a dict."""
    return tuple([word for word in TRUE_WORDS[state] if word in words])


def _ways(states, words):
    """What is true of some words in some states, each way once."""
    return list({way_of(state, words): True for state in states})


def _atom_tables(choices):
    """For each atom that is true in some outcome the set of these outcomes."""
    tables, many = {}, 1
    for job, ways in reversed(list(choices)):
        tables = {atom: _repeated(tables[atom], many, len(ways)) for atom in tables}
        ones = (1 << many) - 1
        for place, way in enumerate(ways):
            for word in way:
                tables[(word, job)] = tables.get((word, job), 0) | (ones << (many * place))
        many = many * len(ways)
    return tables


def _repeated(bits, width, times):
    """So many copies of some bits, side by side."""
    found = bits
    for _ in range(times - 1):
        found = (found << width) | bits
    return found


def _true_in(f, tables):
    """The set of the outcomes in which a formula is true, by those of its atoms."""
    word, rest = f
    if word not in ("and", "or"):
        return tables.get(f, 0)
    found = _true_in(rest[0], tables)
    for part in rest[1:]:
        if word == "and":
            found = found & _true_in(part, tables)
        else:
            found = found | _true_in(part, tables)
    return found
