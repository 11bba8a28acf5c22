"""What the tests share: calls in their flat form, a store to play them on, and a look at all it keeps."""

import unittest

from stepsweep.reader import Reader
from stepsweep.refusals import DONE
from stepsweep.state import State
from stepsweep.store import answer_one, answers

FAR = 10 ** 18
CANCEL = [10]
VALID = [12]
LIVE = [13]
COUNTS = [15]


def row(numbers):
    return [len(numbers)] + list(numbers)


def opened(k):
    return [0, k]


def closed(k):
    return [1, k]


def hold(k, p):
    return [2, k, p]


def begin(k, outs, ins=()):
    return [3, k] + row(outs) + row(ins)


def finish(k, sizes, refs):
    return [4, k] + row(sizes) + row(refs)


def abort(k):
    return [5, k]


def root(r, p):
    return [6, r, p]


def unroot(r):
    return [7, r]


def collect(n):
    return [8, n]


def work(n):
    return [9, n]


def room(n):
    return [11, n]


def why(p):
    return [14, p]


def stored(things, k=7):
    """The calls that enter places, told as {place: (size, references)}, and anchor none of them."""
    places = sorted(things)
    refs = flat([row(things[place][1]) for place in places])
    return [opened(k), begin(k, places), finish(k, [things[place][0] for place in places], refs), closed(k)]


def chained(places, size=1):
    """Things of which each mentions the one told behind it."""
    pairs = zip(places, list(places[1:]) + [None])
    return {place: (size, [] if behind is None else [behind]) for place, behind in pairs}


def flat(calls):
    numbers = []
    for call in calls:
        numbers += call
    return numbers


def parted(told):
    """Cuts the flat list of answers into one list for each call."""
    parts = []
    position = 0
    while position < len(told):
        end = position + 1 + told[position]
        parts.append(told[position + 1:end])
        position = end
    return parts


def ask(*calls):
    return parted(answers(flat(calls)))


def play(state, call):
    return answer_one(state, Reader(call))


def seen(state):
    """All that a store keeps, copied."""
    sessions = {
        k: (sorted(session.held), session.building, list(session.outs), list(session.ins))
        for k, session in state.sessions.items()
    }
    things = {place: (size, list(state.things.references[place])) for place, size in state.things.sizes.items()}
    collector = state.collector
    marks = (collector.phase, sorted(collector.black), sorted(collector.grey), collector.to_be_won, collector.won)
    knots = {place: list(knot) for place, knot in state.things.knots.items()}
    return sessions, things, knots, dict(state.things.mentions), marks, dict(state.roots), state.room


class StoreCase(unittest.TestCase):
    """A test with a store of its own, on which calls are played one by one."""

    def setUp(self):
        self.state = State()

    def done(self, *calls):
        for call in calls:
            self.assertEqual(play(self.state, call), [DONE], call)

    def refused(self, number, call):
        before = seen(self.state)
        self.assertEqual(play(self.state, call), [number], call)
        self.assertEqual(seen(self.state), before, call)

    def built(self, k, outs, ins, sizes, refs):
        self.done(begin(k, outs, ins), finish(k, sizes, refs))

    def told(self, call, *answer):
        self.assertEqual(play(self.state, call), list(answer), call)

    def session(self, k):
        return self.state.sessions[k]

    def references(self, place):
        return self.state.things.references[place]


class AnswersCase(unittest.TestCase):
    """A test through the interface alone: calls with their answers, behind calls that all answer 0."""

    before = []

    def expect(self, *pairs, before=None):
        ahead = list(self.before if before is None else before)
        told = ask(*ahead, *[call for call, answer in pairs])
        self.assertEqual(told[:len(ahead)], [[DONE]] * len(ahead))
        self.assertEqual(len(told), len(ahead) + len(pairs))
        for step, (call, answer) in enumerate(pairs):
            self.assertEqual(told[len(ahead) + step], answer, f"step {step}: {call}")
