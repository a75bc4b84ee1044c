"""A plain board, which does the steps of 12.3 and 12.4 one by one on yards, and looks again at all each time."""

from toldstarts.plan.places import earliest_place


class PlainBoard:
    most_moves = 1000

    def __init__(self, yard, depth=5, fill=False):
        self.yard, self.now, self.depth, self.fill = yard, 0, depth, fill
        self.runs, self.told, self.failed, self.is_settled = [], [], {}, True

    def twin(self):
        made = PlainBoard(self.yard, self.depth, self.fill)
        made.now, made.runs, made.told, made.failed = self.now, list(self.runs), list(self.told), dict(self.failed)
        made.is_settled = self.is_settled
        return made

    def start(self, key):
        return self.yard.places[key][0][0]

    def end_of(self, key):
        place, length, _ = self.yard.places[key]
        return place[0] + length

    def starts(self):
        return {key: self.start(key) for key in sorted(self.told)}

    def next_tick(self):
        ticks = [self.start(key) for key in self.told] + [self.end_of(key) for key in self.runs if self.end_of(key) > self.now]
        return min(ticks) if ticks else None

    def out(self, key):
        self.yard = self.yard.without_place(key)

    def put(self, key, ask, length):
        """The earliest place of a job from now on, which it gets."""
        place = earliest_place(self.yard, ask, length, self.now)
        if place is not None:
            self.yard = self.yard.with_place(key, place, length, ask)
        return place

    def settle(self, now, waiting):
        events, row = [], list(waiting)
        self.now = now
        for key in sorted(self.runs):
            if self.end_of(key) <= now:
                self.end(key)
                events.append(("ended", key))
        events += self.draw()
        began = True
        while began:
            began = False
            while len(self.told) < self.depth and row:
                key, ask, length = row.pop(0)
                place = self.put(key, ask, length)
                if place is None:
                    events.append(("never", key))
                else:
                    self.told.append(key)
                    events.append(("told", key, place[0]))
            for key in list(self.told):
                if self.start(key) == now:
                    self.told.remove(key)
                    self.runs.append(key)
                    events.append(("began", key, self.yard.places[key][0]))
                    began = True
        for key, ask, length in row if self.fill else ():
            place = earliest_place(self.yard, ask, length, now)
            if place is not None and place[0] == now:
                self.put(key, ask, length)
                self.runs.append(key)
                events.append(("began", key, place))
        return tuple(events)

    def draw(self):
        events, moved = [], True
        self.is_settled = True
        while moved:
            moved = False
            for key in self.told:
                place, length, ask = self.yard.places[key]
                other = earliest_place(self.yard.without_place(key), ask, length, self.now)
                if other[0] < place[0]:
                    self.out(key)
                    self.put(key, ask, length)
                    events.append(("drawn", key, place[0], other[0]))
                    moved = True
                    if len(events) == self.most_moves:
                        self.is_settled = False
                        return events
        return events

    def end(self, key):
        self.out(key)
        self.runs.remove(key)

    def leave(self, key):
        self.out(key)
        self.told.remove(key)

    def has(self, key, machine, begin, end):
        """Whether a place has a machine in a tick from begin up to end."""
        (start, _, choice), length, _ = self.yard.places[key]
        return any([machine in row for row in choice]) and start + length > begin and (end is None or start < end)

    def tell_anew(self, keys, change):
        """Take told places out, make a change, and put them in again; those that are put off."""
        rows = [(key, self.yard.places[key]) for key in keys]
        for key in keys:
            self.out(key)
        change()
        found = []
        for key, (place, length, ask) in rows:
            other = self.put(key, ask, length)
            if other is None:
                self.told.remove(key)
                found.append((key, None))
            elif other[0] > place[0]:
                found.append((key, other[0]))
        return tuple(found)

    def shut(self, machine, begin, end):
        def change():
            self.yard = self.yard.with_shut(machine, begin, end)
        return self.tell_anew([key for key in self.told if self.has(key, machine, begin, end)], change)

    def lift(self, machine, begin, end):
        self.yard = self.yard.without_shut(machine, begin, end)

    def fail(self, machine):
        gone = tuple(sorted([key for key in self.runs if self.has(key, machine, 0, None)]))
        for key in gone:
            self.end(key)
        self.failed[machine] = self.now
        return gone, self.shut(machine, self.now, None)

    def mend(self, machine):
        self.lift(machine, self.failed.pop(machine), None)

    def raised(self, key, ask, length):
        others = [other for other in self.told if other != key]
        places = {other: self.yard.places[other] for other in self.told}
        for other in self.told:
            self.out(other)
        place = self.put(key, ask, length)
        assert place is not None
        self.told = [key] + others
        found = []
        for other in others:
            old, length, ask = places[other]
            new = self.put(other, ask, length)
            if new is None:
                self.told.remove(other)
                found.append((other, None))
            elif new[0] > old[0]:
                found.append((other, new[0]))
        return tuple(found)

    def begin(self, key, ask, length):
        if key in self.told:
            self.leave(key)
        place = self.put(key, ask, length)
        self.runs.append(key)
        return place
