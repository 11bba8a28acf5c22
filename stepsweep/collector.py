"""The collection: its phase, its marks, its units of work and what it has won."""

IDLE = 0
MARKING = 1
SWEEPING = 2


class Collector:
    def __init__(self):
        self.phase = IDLE
        self.black = {}
        self.grey = {}
        self.to_be_won = 0
        self.won = 0

    def is_idle(self):
        return self.phase == IDLE

    def begin_marking(self, to_be_won, places):
        self.phase = MARKING
        self.to_be_won = to_be_won
        self.won = 0
        self.make_grey(places)

    # The number won stays: it is told of the last collection, too.
    def become_idle(self):
        self.phase = IDLE
        self.black = {}
        self.grey = {}

    def shade(self, things, places):
        if self.phase == MARKING:
            self.make_grey(places)
        if self.phase == SWEEPING:
            # No unit turns grey into black any more, so the whole closure is marked at once.
            self.make_black(things.closure(places))

    def make_grey(self, places):
        for place in places:
            if place not in self.black:
                self.grey[place] = True

    def make_black(self, places):
        for place in places:
            self.black[place] = True

    # Gives back the places that the unit took away.
    def work_unit(self, things):
        if self.phase == MARKING:
            self.mark_unit(things)
        elif self.phase == SWEEPING:
            return self.sweep_unit(things)
        return []

    def mark_unit(self, things):
        if not self.grey:
            self.phase = SWEEPING
            return
        place = min(self.grey)
        self.grey.pop(place)
        # Black ahead of its references, which may be the place itself.
        self.make_black([place])
        self.make_grey(things.references[place])

    def sweep_unit(self, things):
        if self.is_at_its_end(things):
            self.become_idle()
            return []
        knot = self.next_knot(things)
        self.won = self.won + sum([things.sizes[place] for place in knot])
        things.take_away(knot)
        return knot

    def is_at_its_end(self, things):
        if 0 < self.to_be_won <= self.won:
            return True
        return all([place in self.black for place in things.sizes])

    # There is always one: black places refer to black ones alone by now, and knots can't refer in a circle.
    def next_knot(self, things):
        white = [place for place in things.sizes if place not in self.black]
        return things.knots[min([place for place in white if not things.is_mentioned_from_outside(place)])]
