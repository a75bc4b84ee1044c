"""The search for the earliest place of a bid.

A region is a triple (begin, stop, tops): a run that begins at any tick from begin up to stop lies in the same
parts of the ground, and these tops are set in all of them. Windows are not in it: they are looked at apart.
"""

from toldstarts.base.checks import place_of


def first_place(ground, bid, length, since, end):
    """The place with the least start from a tick up to an end, of these the least door and choice, or None."""
    return _place_of_start(bid, _first_start(ground, bid, length, since, end))


def earliest_at_all(ground, bid, length, since):
    """The earliest place from a tick on, or None."""
    return _place_of_start(bid, _first_at_all(ground, bid, length, since))


def is_ever_free(ground, bid, length, since):
    """Whether there is a place from a tick on."""
    return _first_at_all(ground, bid, length, since) is not None


def _place_of_start(bid, found):
    """The place with what `_first_start` tells."""
    if found is None:
        return None
    start, door, fits = found
    return (start, door, bid.choice_at(door, fits))


def _first_at_all(ground, bid, length, since):
    """What `_first_start` tells without an end. A house asks this twice in a row of a job that comes."""
    asked = (bid, length, since)
    if ground.last_asked != asked:
        ground.last_found = _first_start(ground, bid, length, since, ground.horizon(since))
        ground.last_asked = asked
    return ground.last_found


def _first_start(ground, bid, length, since, end):
    """The start and the door of the first place, and the guards of the members that fit there; None if none fits.

    An end beyond the horizon is none: a bid that has no place ahead of the horizon never has one.
    """
    has_windows, failed, start = len(ground.turn_rows) > 0, 0, since
    last = min(end, ground.horizon(since))
    walk = Walk(ground, bid, length, since)
    while start < last:
        tops, begin = walk.tops_from(start), start
        start = walk.step(last, has_windows)
        # Where no more is free than where no door was open, none is open either.
        if tops & failed != tops:
            fits = bid.fits_of(tops)
            doors = bid.open_doors(tops, fits)
            if doors:
                found = _first_beside_windows(ground, bid, length, (begin, start), doors, fits)
                if found is not None:
                    return found
            else:
                failed = tops
    return None


def place_at(ground, bid, length, start):
    """The place that the earliest one is if it begins at a tick, or None if none fits there."""
    return first_place(ground, bid, length, start, start + 1)


def is_fitting(ground, bid, length, place):
    """Whether a place that has the right form fits."""
    start = place[0]
    tops = tops_over(ground, bid, start, start + length)
    fits = _open_fits(ground, bid, length, start, bid.fits_of(tops))
    return bid.is_free(place, tops, fits)


def tops_over(ground, bid, begin, end):
    """The tops that are set in all ticks from begin up to end."""
    tops = bid.bid_tops
    for base in ground.bases_in(begin, end):
        tops = tops & bid.tops_at(base)
    return tops


class Walk:
    """Goes through the regions of a run from a tick on.

    The tops of the parts in which the run lies are kept in two rows: `front` has, for each of the older parts, the
    tops that are set in it and in all later ones of the front, the oldest part last; `back` has the other parts.
    """

    def __init__(self, ground, bid, length, since):
        self.ticks = ground.ticks
        self.bases = ground.bases
        self.bid = bid
        self.run_length = length
        self.at = place_of(ground.ticks, since)
        self.next_at = self.at
        self.front = []
        self.back = []
        self.back_tops = bid.bid_tops

    def tops_from(self, start):
        """The tops that are set in all parts of the run that begins at a tick, to which the last step led."""
        ticks, at, end, bid = self.ticks, self.next_at, start + self.run_length, self.bid
        while at < len(ticks) and ticks[at] < end:
            tops = (self.bases[at] * bid.repeat - bid.bid_wanted) & bid.bid_tops
            self.back.append(tops)
            self.back_tops = self.back_tops & tops
            at = at + 1
        self.next_at = at
        if not self.front:
            self.front = _turned(self.back, bid.bid_tops)
            self.back = []
            self.back_tops = bid.bid_tops
        return self.front[-1] & self.back_tops

    def step(self, last, is_split):
        """Go to the next region, and tell its begin. Without a split only the parts that the run leaves count.

        A run that goes on into one more part, and leaves none, fits nowhere where it did not before.
        """
        ticks, stop, leaves = self.ticks, last, False
        if self.at + 1 < len(ticks) and ticks[self.at + 1] <= stop:
            stop, leaves = ticks[self.at + 1], True
        if is_split and self.next_at < len(ticks):
            enters = ticks[self.next_at] - self.run_length + 1
            if enters < stop:
                stop, leaves = enters, False
        if leaves:
            self.at = self.at + 1
            self.front.pop()
        return stop


def _turned(rows, tops):
    """For each of some rows of tops, the last one first, what is set in it and in all behind it."""
    found = []
    for row in reversed(list(rows)):
        tops = tops & row
        found.append(tops)
    return found


def _first_beside_windows(ground, bid, length, region, doors, fits):
    """What `_first_start` tells of a region in which some doors are open but for windows."""
    begin, _ = region
    some = _open_fits(ground, bid, length, begin, fits) if ground.turn_rows else fits
    if some == fits:
        return (begin, doors[0], fits)
    seen = {}
    for start in [begin] + _ends_behind(ground, region):
        some = _open_fits(ground, bid, length, start, fits)
        if some not in seen:
            seen[some] = True
            door = bid.first_with_choice(doors, some)
            if door is not None:
                return (start, door, some)
    return None


def _open_fits(ground, bid, length, start, fits):
    """Those guards of members of which no window shuts the machine in a run."""
    return fits - (fits & (ground.shut_mask(start, start + length) * bid.repeat))


def _ends_behind(ground, region):
    """All ends of windows in a region behind its begin, ascending; behind two periods they come again."""
    begin, stop = region
    last = min(stop, begin + 2 * ground.cycle)
    found = {}
    for _, (low, length) in ground.guarded_turns:
        tick = begin + 1 + (low + length - begin - 1) % ground.cycle
        for start in range(tick, last, ground.cycle):
            found[start] = True
    return sorted(found)
