"""Whether a job can begin later because one of some jobs runs for less time."""

from toldstarts.sure.graph import starts_in


def first_put_off(graph, jobs):
    """Two tuples of true lengths of pairs (key, length), of which the second, lesser one puts a job off; or None."""
    starts = {}
    for lengths in _all_lengths(jobs):
        found = starts_in(graph, {key: one for (key, _), one in zip(jobs, lengths)})
        starts[lengths] = [found[key] for key, _ in jobs]
        # The lesser lengths come first, so their starts are known here.
        for at in range(len(jobs)):
            for less in range(1, lengths[at]):
                other = lengths[:at] + (less,) + lengths[at + 1:]
                if any([late > start for late, start in zip(starts[other], starts[lengths])]):
                    return (lengths, other)
    return None


def _all_lengths(jobs):
    """All tuples of true lengths, in Python's order."""
    found = [()]
    for _, length in jobs:
        found = [row + (one,) for row in found for one in range(1, length + 1)]
    return found
