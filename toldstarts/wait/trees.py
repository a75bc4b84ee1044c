"""Lost trees, which show that formulas over the ends of jobs cannot come true.

The ends of the jobs that can be split are told by a dict. What is read as true of each job is told by a
dict of words, where nobody has chosen an end: all that is true in some end.
"""

from toldstarts.base.checks import is_whole
from toldstarts.wait.fates import ATOM_WORDS, ENDS, TRUE_WORDS
from toldstarts.wait.truths import is_true, way_of, words_by_job

LEAF = ("lost",)


def open_ends(f, known, held):
    """For each job of a formula that is not held the ends of its state."""
    return {job: ENDS[known[job]] for job in sorted(words_by_job(f)) if job not in held}


def first_words(f, ends):
    """For each job of a formula the words that are true in some of its ends."""
    return {job: _words_in(ends.get(job, ())) for job in words_by_job(f)}


def find_tree(f, ends, words):
    """A lost tree of a formula that is lost."""
    return _tree_below(f, words_by_job(f), ends, words)


def is_tree(f, ends, words, value):
    """Whether a value is a lost tree; None stands for words with which the formula is surely false."""
    if not isinstance(value, tuple):
        return False
    # A formula that is false as it is read stays so below: what is split makes nothing more true.
    is_lost = words is None or not is_true(f, words)
    if len(value) != 3:
        return value == LEAF and is_lost
    word, job, rows = value
    if word != "split" or not is_whole(job) or job not in ends:
        return False
    if not isinstance(rows, tuple) or len(rows) != len(ends[job]):
        return False
    rest = {other: ends[other] for other in ends if other != job}
    for end, row in zip(ends[job], rows):
        if not isinstance(row, tuple) or len(row) != 2 or row[0] != end:
            return False
        if not is_tree(f, rest, None if is_lost else _chosen(words, job, TRUE_WORDS[end]), row[1]):
            return False
    return True


def _words_in(ends):
    """The words that are true in some of the ends."""
    return tuple([word for word in ATOM_WORDS if any([word in TRUE_WORDS[end] for end in ends])])


def _chosen(words, job, chosen):
    """What is read as true if some words are true of a job."""
    found = {other: words[other] for other in words}
    found[job] = chosen
    return found


def _tree_below(f, used, ends, words):
    """A lost tree below what has been chosen, if the words that the formula uses are told for each job."""
    if not is_true(f, words):
        return LEAF
    job = _best_split(f, used, ends, words)
    rest = {other: ends[other] for other in ends if other != job}
    # Ends that make the same words of the formula true have the same tree.
    trees = {}
    for way in _ways(used, ends, job):
        trees[way] = _tree_below(f, used, rest, _chosen(words, job, way))
    return ("split", job, tuple([(end, trees[way_of(end, used[job])]) for end in ends[job]]))


def _best_split(f, used, ends, words):
    """The job of which the fewest ways leave the formula true, as it is read then: so the tree stays small."""
    lefts = []
    for job in ends:
        left = [way for way in _ways(used, ends, job) if is_true(f, _chosen(words, job, way))]
        lefts.append((len(left), job))
    return min(lefts)[1]


def _ways(used, ends, job):
    """What is true of the words that a formula uses in the ends of a job, each way once."""
    return list({way_of(end, used[job]): True for end in ends[job]})
