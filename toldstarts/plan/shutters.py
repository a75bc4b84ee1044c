"""When a machine is shut: in some spans, and in some windows of each period."""


class Shutter:
    """The spans (begin, end), where None is no end, and the windows (begin, length) in which one machine is shut."""

    def __init__(self, spans, windows, cycle):
        self.shut_rows = spans
        self.window_rows = windows
        self.cycle = cycle
        # Whether the windows alone shut the machine in all ticks from the second period on.
        self.is_always = False
        self.is_always = self._covers_a_period()

    def meets(self, begin, end):
        """Whether the machine is shut in a tick from begin up to end."""
        return self.last_in(begin, end) is not None

    def last_in(self, begin, end):
        """The last tick from begin up to end in which the machine is shut, or None."""
        found = []
        for low, high in self.shut_rows:
            if low < end and (high is None or high > begin):
                found.append(end if high is None else min(high, end))
        for window in self.window_rows:
            high = window_end(window, self.cycle, end - 1)
            if high is not None and high > begin:
                found.append(min(high, end))
        return max(found) - 1 if found else None

    def reach(self, tick):
        """The tick up to which the machine is shut from a tick on: this tick itself if it is open, None if for ever."""
        at = tick
        while True:
            end = self._step(at)
            if end is None or end == at:
                return end
            at = end

    def _step(self, tick):
        """The last end of the spans and windows in which a tick lies, the tick itself if there are none."""
        if self.is_always and tick >= self.cycle:
            return None
        found = tick
        for low, high in self.shut_rows:
            if low <= tick:
                if high is None:
                    return None
                found = max(found, high)
        for window in self.window_rows:
            high = window_end(window, self.cycle, tick)
            if high is not None:
                found = max(found, high)
        return found

    def _covers_a_period(self):
        """Whether the windows alone leave no tick of the second period open."""
        at = self.cycle
        while at < 2 * self.cycle:
            end = max([at] + [window_end(window, self.cycle, at) for window in self.window_rows])
            if end == at:
                return False
            at = end
        return True


def window_end(window, cycle, tick):
    """The end of the last turn of a window (begin, length) that has begun at a tick, or None if none has."""
    begin, length = window
    if tick < begin:
        return None
    return tick - (tick - begin) % cycle + length


def meets_window(window, cycle, begin, end):
    """Whether a window has one of the ticks from begin up to end."""
    high = window_end(window, cycle, end - 1)
    return high is not None and high > begin
