"""All that one store keeps from call to call."""

from stepsweep.collector import Collector
from stepsweep.limits import FIRST_ROOM
from stepsweep.things import Things


class State:
    # Closed sessions and roots set to none have no key in their dicts.
    def __init__(self):
        self.things = Things()
        self.collector = Collector()
        self.sessions = {}
        self.roots = {}
        self.room = FIRST_ROOM

    def is_valid(self, place):
        return self.things.is_valid(place)

    def anchored_valid(self):
        anchored = list(self.roots.values())
        for session in self.sessions.values():
            anchored.extend(session.anchored())
        # What was taken away may be held and rooted on.
        return [place for place in anchored if self.is_valid(place)]

    def shade(self, places):
        self.collector.shade(self.things, places)
