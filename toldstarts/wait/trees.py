"""Lost trees, which show that formulas over the ends of jobs cannot come true.

The ends of the jobs that can be split are told by a dict. What is read as true of each job is told by a
dict of words, where nobody has chosen an end: all that is true in some end.
"""

from toldstarts.base.checks import is_whole
from toldstarts.wait.fates import ATOM_WORDS, ENDS, TRUE_WORDS
from toldstarts.wait.truths import is_true, words_by_job

LEAF = ("lost",)


def open_ends(f, known, held):
    """For each job of a formula that is not held the ends of its state."""
    return {job: ENDS[known[job]] for job in sorted(words_by_job(f)) if job not in held}


def first_words(f, ends):
    """For each job of a formula the words that are true in some of its ends."""
    return {job: _words_in(ends.get(job, ())) for job in words_by_job(f)}


def find_tree(f, ends, words):
    """A lost tree of a formula that is lost."""
    if not is_true(f, words):
        return LEAF
    job = _best_split(f, ends, words)
    rest = {other: ends[other] for other in ends if other != job}
    return ("split", job, tuple([(end, find_tree(f, rest, _chosen(words, job, end))) for end in ends[job]]))


def is_tree(f, ends, words, value):
    """Whether a value is a lost tree."""
    if not isinstance(value, tuple):
        return False
    if len(value) != 3:
        return value == LEAF and not is_true(f, words)
    word, job, rows = value
    if word != "split" or not is_whole(job) or job not in ends:
        return False
    if not isinstance(rows, tuple) or len(rows) != len(ends[job]):
        return False
    rest = {other: ends[other] for other in ends if other != job}
    for end, row in zip(ends[job], rows):
        if not isinstance(row, tuple) or len(row) != 2 or row[0] != end:
            return False
        if not is_tree(f, rest, _chosen(words, job, end), row[1]):
            return False
    return True


def _words_in(ends):
    """The words that are true in some of the ends."""
    return tuple([word for word in ATOM_WORDS if any([word in TRUE_WORDS[end] for end in ends])])


def _chosen(words, job, end):
    """What is read as true if a job has come to an end."""
    found = {other: words[other] for other in words}
    found[job] = TRUE_WORDS[end]
    return found


def _best_split(f, ends, words):
    """The job of which the fewest ends leave the formula true, as it is read then: so the tree stays small."""
    lefts = []
    for job in ends:
        left = [end for end in ends[job] if is_true(f, _chosen(words, job, end))]
        lefts.append((len(left), job))
    return min(lefts)[1]
