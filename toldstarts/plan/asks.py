"""The forms of keys, lengths, asks and places, and asks that are made ready for the search.

A bid is an ask that is made ready for the machines of a yard. It has a copy of the integer of the yard
(plan/layout.py) for each group of each of its different groups of wants: so one subtraction tells what is
short for all of them. The copies stand one stride apart. The amounts of the house that the want with the
index i asks are looked at in the copy i.
"""

from toldstarts.base.amounts import Amounts
from toldstarts.base.checks import is_ascending, is_between
from toldstarts.house.choices import is_groups
from toldstarts.house.slack import least_choice
from toldstarts.plan.layout import packed_house, packed_with_tops

MAX_KEY = 1000000
MAX_LENGTH = 1000000
MAX_START = 10 ** 9
MAX_WANTS = 4

MOST_KNOWN = 64


def is_key(value):
    """Whether the value is a key."""
    return is_between(value, 0, MAX_KEY)


def is_length(value):
    """Whether the value is a length."""
    return is_between(value, 1, MAX_LENGTH)


def is_ask(value):
    """Whether the value is an ask."""
    if not isinstance(value, tuple) or not 1 <= len(value) <= MAX_WANTS:
        return False
    return all([_is_want(want) for want in value])


def is_place_form(value, ask, many):
    """Whether the value has the form of a place for an ask in a yard of so many machines."""
    if not isinstance(value, tuple) or len(value) != 3:
        return False
    start, door, choice = value
    if not is_between(start, 0, MAX_START) or not is_between(door, 0, len(ask) - 1):
        return False
    groups = ask[door][0]
    if not isinstance(choice, tuple) or len(choice) != len(groups):
        return False
    for (count, _, _), members in zip(groups, choice):
        if not isinstance(members, tuple) or len(members) != count:
            return False
        if not all([is_between(member, 0, many - 1) for member in members]) or not is_ascending(members):
            return False
    chosen = members_of(choice)
    return len(set(chosen)) == len(chosen)


def members_of(choice):
    """The machines of a choice."""
    return [member for members in choice for member in members]


class Bid:
    """An ask that is made ready for the machines of a yard, and for the kinds that its house has."""

    def __init__(self, layout, shifts, ask):
        sides, places = _sides_of(layout, ask)
        copies = max(len(ask), sum([len(side.counts) for side in sides]))
        strides, repeat, fillers, guards = layout.copies(copies)
        members = wanted = tops = 0
        doors = []
        for side in sides:
            for row, stride in zip(side.group_rows, side.strides):
                members = members + (row[0] << stride)
                wanted = wanted + (row[1] << stride)
                tops = tops + (row[2] << stride)
        for stride, (_, amounts), place in zip(strides, ask, places):
            own = None
            house_row = packed_with_tops(shifts, amounts.pairs)
            if house_row is not None:
                wanted = wanted + (house_row[0] << stride)
                own = house_row[1] << stride
                tops = tops + own
            doors.append((place, own))
        self.layout = layout
        self.asked = ask
        self.sides = sides
        # For each want the place of its side, and the tops of its amounts of the house, or None if a kind is none.
        self.door_rows = doors
        self.repeat = repeat
        self.bid_members = members
        self.bid_wanted = wanted
        self.bid_tops = tops
        self.bid_fillers = fillers
        self.bid_guards = guards

    def tops_at(self, base):
        """The tops that are set where the integer of the yard is this one."""
        return (base * self.repeat - self.bid_wanted) & self.bid_tops

    def fits_of(self, tops):
        """The guards of the members that fit, for each group in its copy, if just some tops are set."""
        short = (self.bid_tops - tops + self.bid_fillers) & self.bid_guards
        return self.bid_members - (self.bid_members & short)

    def open_doors(self, tops, fits):
        """The indices of the wants for which enough is free in the house, and that have a choice."""
        enough = [side.has_choice(fits) for side in self.sides]
        return [door for door, (place, own) in enumerate(self.door_rows)
                if enough[place] and own is not None and tops & own == own]

    def first_with_choice(self, doors, fits):
        """The first one of some doors that has a choice, or None."""
        for door in doors:
            if self.sides[self.door_rows[door][0]].has_choice(fits):
                return door
        return None

    def choice_at(self, door, fits):
        """The best choice for a want that has one."""
        return self.sides[self.door_rows[door][0]].choice_of(fits)

    def is_free(self, place, tops, fits):
        """Whether the machines of a place fit, and enough is free in the house, if just some tops are set."""
        _, door, choice = place
        side, own = self.sides[self.door_rows[door][0]], self.door_rows[door][1]
        return own is not None and tops & own == own and side.has_members(choice, fits)

    def held_by(self, place, shifts):
        """What a place takes away in its span."""
        _, door, choice = place
        groups, amounts = self.asked[door]
        taken = packed_house(shifts, amounts)
        for (_, _, some), members in zip(groups, choice):
            taken = taken + sum([self.layout.packed(member, some) for member in members])
        return taken


class Side:
    """The groups of a want, which several wants can share, and their copies.

    A row is a triple of a group: the guards of the machines that could ever fit it, what it wants of all of
    them, and the tops that tell whether they have it.
    """

    def __init__(self, layout, groups, bottom):
        self.counts = [count for count, _, _ in groups]
        self.layout = layout
        self.groups_asked = groups
        self.bottom = bottom
        self.strides = [bottom + layout.stride * at for at in range(len(groups))]
        self.group_rows = [layout.wanted_of(formula, amounts) for _, formula, amounts in groups]
        self.fields = layout.set_fields(len(groups))
        self.lacking = self.fields.slack_without_members(self.counts)
        # Jobs that wait are looked at again and again: what was found for some members that fit is kept.
        self.known_answers = {}
        self.known_choices = {}

    def has_choice(self, fits):
        """Whether there is a choice if just some members fit."""
        if len(self.counts) == 1:
            bits = f"{(fits >> self.bottom) & self.layout.all_guards:b}"
            return bits.count("1") >= self.counts[0]
        if fits not in self.known_answers:
            if len(self.known_answers) >= MOST_KNOWN:
                self.known_answers = {}
            meeting, tops = self.fields.meeting, self.fields.tops
            slack = self.lacking + sum([meeting[fit] for fit in self._fit_sets(fits)])
            self.known_answers[fits] = slack & tops == tops
        return self.known_answers[fits]

    def choice_of(self, fits):
        """The best choice if just some members fit."""
        if fits not in self.known_choices:
            if len(self.known_choices) >= MOST_KNOWN:
                self.known_choices = {}
            fit_sets = self._fit_sets(fits)
            self.known_choices[fits] = least_choice(self.counts, fit_sets, self.layout.racks, self.fields)
        return self.known_choices[fits]

    def has_members(self, choice, fits):
        """Whether all machines of a choice are among those that fit its groups."""
        for stride, members in zip(self.strides, choice):
            mask = fits >> stride
            if not all([mask & self.layout.guards[member] for member in members]):
                return False
        return True

    def _fit_sets(self, fits):
        """For each machine the set of the groups that it fits, as house/slack.py uses them."""
        guards = self.layout.guards
        found = [0] * len(guards)
        for at, stride in enumerate(self.strides):
            mask, own = fits >> stride, 1 << at
            found = [fit | own if mask & guard else fit for fit, guard in zip(found, guards)]
        return found


def _sides_of(layout, ask):
    """The different groups of all wants as sides, and for each want the place of its own one."""
    sides, places, bottom = [], [], 0
    for groups, _ in ask:
        same = [at for at, side in enumerate(sides) if side.groups_asked == groups]
        if not same:
            same = [len(sides)]
            sides.append(Side(layout, groups, bottom))
            bottom = bottom + layout.stride * len(groups)
        places.append(same[0])
    return sides, places


def _is_want(value):
    """Whether the value is a want."""
    if not isinstance(value, tuple) or len(value) != 2:
        return False
    return is_groups(value[0]) and isinstance(value[1], Amounts)
