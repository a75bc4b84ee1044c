"""How much is to spare when groups choose members, and the least choice.

A set of groups is an integer inside this file: the bit with the value 1 << i stands for the group with
the index i. A member is told by the set of the groups that it fits. The slack of a set is the number
of members that fit one of its groups, less the members that its groups want. There is a choice
exactly if no slack is below 0.
"""


def members_of(part):
    """The ascending tuple of the indices of a set."""
    return tuple([at for at in range(part.bit_length()) if part >> at & 1])


def slacks(counts, fits):
    """The slacks of all sets of groups that want so many members."""
    found = []
    for part in range(1 << len(counts)):
        wanted = sum([counts[at] for at in members_of(part)])
        found.append(len([fit for fit in fits if fit & part]) - wanted)
    return found


def least_choice(counts, fits, racks):
    """The choice in the fewest racks, of these the least one, or None if there is no choice."""
    useful = sorted(set([rack for fit, rack in zip(fits, racks) if fit]))
    for many in range(1, len(useful) + 1):
        best = None
        for some in _some_racks(useful, many):
            found = _first_choice(counts, [fit if rack in some else 0 for fit, rack in zip(fits, racks)])
            if found is not None and (best is None or found < best):
                best = found
        if best is not None:
            return best
    return None


def _some_racks(racks, many):
    """All lists of so many of the racks."""
    parts = [members_of(part) for part in range(1 << len(racks))]
    return [[racks[at] for at in part] for part in parts if len(part) == many]


def _first_choice(counts, fits):
    """The least choice in Python's order, or None if there is no choice."""
    slack = slacks(counts, fits)
    if min(slack) < 0:
        return None
    left = list(fits)
    choice = []
    for group, count in enumerate(counts):
        members = []
        for member in range(len(left)):
            if len(members) < count and left[member] >> group & 1:
                spared = [part for part in range(len(slack)) if left[member] & part and not part >> group & 1]
                # The groups that do not get this member must be able to do without it.
                if all([slack[part] > 0 for part in spared]):
                    members.append(member)
                    left[member] = 0
                    for part in spared:
                        slack[part] = slack[part] - 1
        choice.append(tuple(members))
    return tuple(choice)
