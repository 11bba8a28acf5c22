"""The collection: its phase, its marks and what it has won."""

IDLE = 0
MARKING = 1
SWEEPING = 2


class Collector:
    def __init__(self):
        self.phase = IDLE
        self.black = {}
        self.grey = {}
        self.won = 0

    def shade(self, things, places):
        if self.phase == MARKING:
            self.make_grey(places)
        if self.phase == SWEEPING:
            # No unit turns grey into black any more, so the whole closure is marked at once.
            self.make_black(things.closure(places))

    def make_grey(self, places):
        for place in places:
            if place not in self.black:
                self.grey[place] = True

    def make_black(self, places):
        for place in places:
            self.black[place] = True
