"""How the jobs of a lineup stand behind each settling.

A stand is a triple (runs, told, left), as the document tells it; all ticks count from the present one. The yard is
told by one integer for each tick (plan/layout.py): no place of a lineup goes on for longer than all lengths together.
"""


class Settler:
    """Settles stands of some jobs in an empty ground; `jobs` are triples (key, bid, length)."""

    def __init__(self, ground, jobs, most_told, is_filling):
        self.ground = ground
        self.bids = {key: (bid, length) for key, bid, length in jobs}
        self.most_told = most_told
        self.is_filling = is_filling
        self.all_ticks = sum([length for _, _, length in jobs])
        self.known_stands = {}
        self.known_choices = {}
        self.known_helds = {}

    def settled(self, stand):
        """The stand behind a settling at the present tick; runs that are over are no longer in it."""
        if stand not in self.known_stands:
            self.known_stands[stand] = self._settle(stand)
        return self.known_stands[stand]

    def aged(self, stand):
        """The stand one tick later, ahead of the settling and without the runs whose lengths are over."""
        runs, told, left = stand
        older = [(key, ran + 1, door, choice) for key, ran, door, choice in runs if ran + 1 < self.bids[key][1]]
        nearer = [(key, start - 1, door, choice) for key, start, door, choice in told]
        return (tuple(older), tuple(nearer), left)

    def held_by(self, key, door, choice):
        """What a place of a job takes away in its span."""
        if (key, door, choice) not in self.known_helds:
            held = self.bids[key][0].held_by((0, door, choice), self.ground.house_shifts)
            self.known_helds[(key, door, choice)] = held
        return self.known_helds[(key, door, choice)]

    def choice_at(self, key, door, fits):
        """The best choice of a job for a want, if just some members fit."""
        if (key, door, fits) not in self.known_choices:
            self.known_choices[(key, door, fits)] = self.bids[key][0].choice_at(door, fits)
        return self.known_choices[(key, door, fits)]

    def _settle(self, stand):
        """The stand behind a settling that has not been looked at before."""
        scene = Scene(self, stand)
        scene.draw()
        scene.tell()
        while scene.begin_due():
            scene.tell()
        if self.is_filling:
            scene.begin_at_once()
        return scene.stand_here()


class Scene:
    """A stand that is being settled."""

    def __init__(self, settler, stand):
        runs, told, left = stand
        self.settler = settler
        self.bases = settler.ground.bases * settler.all_ticks
        # For each job with a place its begin and end from the present tick on, its door and its choice.
        self.placed = {}
        self.ran = {key: ran for key, ran, _, _ in runs}
        self.told_keys = [key for key, _, _, _ in told]
        self.left_keys = list(left)
        for key, ran, door, choice in runs:
            self._put(key, (0, door, choice), settler.bids[key][1] - ran)
        for key, start, door, choice in told:
            self._put(key, (start, door, choice), settler.bids[key][1])

    def draw(self):
        """Draw the told jobs together. So few short jobs never need many moves."""
        has_moved = True
        while has_moved:
            has_moved = False
            for key in list(self.told_keys):
                start, end, door, choice = self.placed.pop(key)
                self._lower(start, end, -self.settler.held_by(key, door, choice))
                place = self._first_place(key, start)
                if place is None:
                    place = (start, door, choice)
                else:
                    has_moved = True
                self._put(key, place, end - start)

    def tell(self):
        """Tell jobs their starts as long as there is depth."""
        while len(self.told_keys) < self.settler.most_told and self.left_keys:
            key = self.left_keys.pop(0)
            self._put(key, self._first_place(key, self.settler.all_ticks), self.settler.bids[key][1])
            self.told_keys.append(key)

    def begin_due(self):
        """Let the told jobs begin that start now, and tell whether there was one."""
        due = [key for key in self.told_keys if self.placed[key][0] == 0]
        for key in due:
            self.told_keys.remove(key)
            self.ran[key] = 0
        return len(due) > 0

    def begin_at_once(self):
        """Let those that are left begin that can do so."""
        keys = list(self.left_keys)
        for key in keys:
            place = self._first_place(key, 1)
            if place is not None:
                self.left_keys.remove(key)
                self._put(key, place, self.settler.bids[key][1])
                self.ran[key] = 0

    def stand_here(self):
        """The stand that has come of all this."""
        runs = [(key, self.ran[key], self.placed[key][2], self.placed[key][3]) for key in sorted(self.ran)]
        told = [(key, self.placed[key][0], self.placed[key][2], self.placed[key][3]) for key in self.told_keys]
        return (tuple(runs), tuple(told), tuple(self.left_keys))

    def _first_place(self, key, below):
        """The earliest place of a job with a start below a tick, or None."""
        bid, length = self.settler.bids[key]
        ticks = [0] + [end for _, end, _, _ in self.placed.values()]
        for start in sorted(set([tick for tick in ticks if tick < below])):
            tops = bid.bid_tops
            for base in self.bases[start:start + length]:
                tops = tops & bid.tops_at(base)
            fits = bid.fits_of(tops)
            doors = bid.open_doors(tops, fits)
            if doors:
                return (start, doors[0], self.settler.choice_at(key, doors[0], fits))
        return None

    def _put(self, key, place, length):
        """Put in a place that goes on for some ticks."""
        start, door, choice = place
        self.placed[key] = (start, start + length, door, choice)
        self._lower(start, start + length, self.settler.held_by(key, door, choice))

    def _lower(self, start, end, held):
        """Take something away in some ticks, or give it back if it is below 0."""
        self.bases[start:end] = [base - held for base in self.bases[start:end]]
