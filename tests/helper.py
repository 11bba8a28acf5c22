"""What the tests share: calls in their flat form, a store to play them on, and a look at all it keeps."""

import unittest

from stepsweep.reader import Reader
from stepsweep.refusals import DONE
from stepsweep.state import State
from stepsweep.store import answer_one, answers

FAR = 10 ** 18
COUNTS = [15]


def row(numbers):
    return [len(numbers)] + list(numbers)


def opened(k):
    return [0, k]


def closed(k):
    return [1, k]


def hold(k, p):
    return [2, k, p]


def begin(k, outs, ins=()):
    return [3, k] + row(outs) + row(ins)


def finish(k, sizes, refs):
    return [4, k] + row(sizes) + row(refs)


def abort(k):
    return [5, k]


def root(r, p):
    return [6, r, p]


def unroot(r):
    return [7, r]


def flat(calls):
    numbers = []
    for call in calls:
        numbers += call
    return numbers


def parted(told):
    """Cuts the flat list of answers into one list for each call."""
    parts = []
    position = 0
    while position < len(told):
        end = position + 1 + told[position]
        parts.append(told[position + 1:end])
        position = end
    return parts


def ask(*calls):
    return parted(answers(flat(calls)))


def play(state, call):
    return answer_one(state, Reader(call))


def seen(state):
    """All that a store keeps, copied."""
    sessions = {
        k: (sorted(session.held), session.building, list(session.outs), list(session.ins))
        for k, session in state.sessions.items()
    }
    things = {place: (size, list(state.things.references[place])) for place, size in state.things.sizes.items()}
    collector = state.collector
    marks = (collector.phase, sorted(collector.black), sorted(collector.grey), collector.won)
    return sessions, things, marks, dict(state.roots), state.room


class StoreCase(unittest.TestCase):
    """A test with a store of its own, on which calls are played one by one."""

    def setUp(self):
        self.state = State()

    def done(self, *calls):
        for call in calls:
            self.assertEqual(play(self.state, call), [DONE], call)

    def refused(self, number, call):
        before = seen(self.state)
        self.assertEqual(play(self.state, call), [number], call)
        self.assertEqual(seen(self.state), before, call)

    def built(self, k, outs, ins, sizes, refs):
        self.done(begin(k, outs, ins), finish(k, sizes, refs))

    def session(self, k):
        return self.state.sessions[k]

    def references(self, place):
        return self.state.things.references[place]
