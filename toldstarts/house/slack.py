"""How much is to spare when groups choose members, and the least choice.

A set of groups is an integer inside this file: the bit with the value 1 << i stands for the group with
the index i; a set of racks likewise. A member is told by the set of the groups that it fits. The slack of
a set of groups is the number of members that fit one of its groups, less the members that its groups
want. There is a choice exactly if no slack is below 0.

The slacks of all sets of groups are packed into one integer, so that all are looked at together: that of
the set p stands, EVEN added, in the field of FIELD bits from FIELD * p on. As a slack lies between
-6 * 40 and 40, no field runs over, and its highest bit is set exactly if the slack is not below 0.
"""

FIELD = 9
EVEN = 256


def members_of(part):
    """The ascending tuple of the indices of a set."""
    return tuple([at for at in range(part.bit_length()) if part >> at & 1])


def short_part(counts, fits):
    """The least set of groups that wants more members than fit it, or None."""
    if len(counts) == 1:
        return None if len([fit for fit in fits if fit]) >= counts[0] else 1
    fields = SetFields(len(counts))
    short = fields.tops - (fields.slack_of(counts, fits) & fields.tops)
    return ((short & -short).bit_length() - 1) // FIELD if short else None


def least_choice(counts, fits, racks, fields):
    """The choice in the fewest racks, of these the least one, or None if there is no choice."""
    if len(counts) == 1:
        members = _members_in_one_rack(counts[0], fits, racks)
        if members is not None:
            return (members,)
    covers = {}
    for fit, rack in zip(fits, racks):
        if fit:
            covers[rack] = covers.get(rack, 0) + fields.meeting[fit]
    useful = sorted(covers)
    slacks, sizes = [fields.slack_without_members(counts)], [0]
    for rack in useful:
        cover = covers[rack]
        slacks = slacks + [slack + cover for slack in slacks]
        sizes = sizes + [size + 1 for size in sizes]
    tops = fields.tops
    enough = [some for some, slack in enumerate(slacks) if slack & tops == tops]
    if not enough:
        return None
    fewest = min([sizes[some] for some in enough])
    alive = [(some, slacks[some]) for some in enough if sizes[some] == fewest]
    places = {rack: 1 << at for at, rack in enumerate(useful)}
    return _first_choice(counts, fits, [places.get(rack, 0) for rack in racks], alive, fields)


class SetFields:
    """The fields of all sets of so many groups."""

    def __init__(self, many):
        # For each set of groups a one in the field of each set that has none of its groups.
        avoiding = [1]
        for group in range(many):
            avoiding = [ones | ones << (FIELD << group) for ones in avoiding] + avoiding
        self.avoiding = avoiding
        # And a one in the field of each set that has one of its groups.
        self.meeting = [avoiding[0] - ones for ones in avoiding]
        self.tops = avoiding[0] * EVEN

    def cost(self, part, group):
        """A one in the field of each set that a member can no longer serve once a group has it."""
        return self.avoiding[1 << group] - self.avoiding[part | 1 << group]

    def slack_without_members(self, counts):
        """The slacks if there are no members at all."""
        return self.tops - sum([count * self.meeting[1 << group] for group, count in enumerate(counts)])

    def slack_of(self, counts, fits):
        """The slacks if some members fit."""
        return self.slack_without_members(counts) + sum([self.meeting[fit] for fit in fits])


def _members_in_one_rack(count, fits, racks):
    """The least ascending tuple of so many members that fit the only group and stand in one rack, or None."""
    found = {}
    for member, (fit, rack) in enumerate(zip(fits, racks)):
        if fit:
            found.setdefault(rack, []).append(member)
    return min([tuple(members[:count]) for members in found.values() if len(members) >= count], default=None)


def _first_choice(counts, fits, places, alive, fields):
    """The least choice in Python's order, in one of some sets of racks that all have a choice.

    Pairs of a set of racks and its slacks are alive while all that has been chosen leaves a choice there.
    """
    left, tops = list(fits), fields.tops
    choice = []
    for group, count in enumerate(counts):
        members = []
        for member in range(len(left)):
            if len(members) == count:
                break
            if left[member] >> group & 1:
                cost = fields.cost(left[member], group)
                rest = [(some, slack - cost) for some, slack in alive if some & places[member]]
                # The groups that do not get this member must be able to do without it.
                rest = [row for row in rest if row[1] & tops == tops]
                if rest:
                    alive = rest
                    members.append(member)
                    left[member] = 0
        choice.append(tuple(members))
    return tuple(choice)
