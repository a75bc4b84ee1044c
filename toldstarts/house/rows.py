"""Sets of marks, and the prime rows of what holds for some of them.

Sets are integers inside this file: the bit with the value 1 << i stands for the mark with the index i.
"""


def subsets(marks):
    """All sets of some of the marks as ascending tuples: those with fewer marks first, then in Python's order."""
    found = [_marks_of(bits, marks) for bits in range(1 << len(marks))]
    return [some for _, some in sorted([(len(some), some) for some in found])]


def prime_rows(sets, marks):
    """The ascending tuple of the prime rows of what holds for just these sets of some of the marks."""
    ones = [1 << at for at in range(len(marks))]
    full = (1 << len(marks)) - 1
    level, primes = {}, []
    for some in sets:
        has = sum([one for one, mark in zip(ones, marks) if mark in some])
        level[(has, full - has)] = True
    while level:
        level, found = _shortened(level, ones)
        primes.extend(found)
    return tuple(sorted([(_marks_of(has, marks), _marks_of(lacks, marks)) for has, lacks in primes]))


def _shortened(level, ones):
    """All rows that hold with one mark less than those of a level, and the rows that cannot lose one."""
    shorter, primes = {}, []
    for has, lacks in level:
        is_prime = True
        for one in ones:
            # A mark can go if the row with the mark on its other side holds, too.
            if (has & one and (has - one, lacks + one) in level) or (lacks & one and (has + one, lacks - one) in level):
                shorter[(has - (has & one), lacks - (lacks & one))] = True
                is_prime = False
        if is_prime:
            primes.append((has, lacks))
    return shorter, primes


def _marks_of(bits, marks):
    """The marks of a set, ascending."""
    return tuple([mark for at, mark in enumerate(marks) if bits >> at & 1])
