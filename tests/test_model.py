"""The answers against a model that follows the document word by word, on many lists of calls."""

import random
import unittest

from stepsweep.store import answers
from tests.helper import (
    CANCEL, COUNTS, LIVE, VALID, abort, begin, closed, collect, finish, flat, hold, opened, parted, root, room, row,
    unroot, why, work,
)

RANGE, ABSENT, BUSY, THERE, LOCKED, STRAY, FULL, SHAPE = -1, -2, -3, -4, -5, -6, -7, -8


class Model:
    """A store of sets; knots, closures and what is live are looked up anew whenever they are asked for."""

    def __init__(self):
        self.valid = {}
        self.roots = {}
        self.held = {}
        self.building = {}
        self.room = 100000
        self.phase, self.black, self.grey, self.target, self.won = 0, set(), set(), 0, 0

    def closure(self, places):
        found = set(places)
        while True:
            more = found | {ref for place in found for ref in self.valid[place][1]}
            if more == found:
                return found
            found = more

    def knot(self, place):
        return {other for other in self.closure({place}) if place in self.closure({other})}

    def anchored(self):
        ins = {place for outs, ins in self.building.values() for place in ins}
        every = set(self.roots.values()) | {place for held in self.held.values() for place in held} | ins
        return every & set(self.valid)

    def load(self):
        return sum(size for size, refs in self.valid.values())

    def shade(self, places):
        if self.phase == 1:
            self.grey |= set(places) - self.black
        if self.phase == 2:
            self.black |= self.closure(places)

    def unit(self):
        if self.phase == 1 and self.grey:
            place = min(self.grey)
            self.grey.remove(place)
            self.black.add(place)
            self.grey |= self.valid[place][1] - self.black
        elif self.phase == 1:
            self.phase = 2
        elif self.phase == 2:
            return self.sweep()
        return []

    def sweep(self):
        if set(self.valid) <= self.black or (self.target != 0 and self.won >= self.target):
            self.phase, self.black = 0, set()
            return []
        for place in sorted(set(self.valid) - self.black):
            knot = self.knot(place)
            if not any(self.valid[other][1] & knot for other in set(self.valid) - knot):
                break
        assert not knot & self.closure(self.anchored()), "what is live is never taken"
        self.won += sum(self.valid.pop(member)[0] for member in knot)
        return sorted(knot)

    def open(self, k):
        if not 0 <= k <= 7:
            return [RANGE]
        if k in self.held:
            return [BUSY]
        self.held[k] = set()
        return [0]

    def close(self, k):
        if not 0 <= k <= 7:
            return [RANGE]
        if k not in self.held:
            return [ABSENT]
        self.held.pop(k)
        self.building.pop(k, None)
        return [0]

    def hold(self, k, p):
        if not 0 <= k <= 7 or not 0 <= p <= 127:
            return [RANGE]
        if k not in self.held:
            return [ABSENT]
        self.held[k].add(p)
        self.shade({p} & set(self.valid))
        return [0]

    def begin(self, k, outs, ins):
        if not 0 <= k <= 7 or any(not 0 <= p <= 127 for p in outs + ins) or not outs:
            return [RANGE]
        if k not in self.held:
            return [ABSENT]
        if k in self.building:
            return [BUSY]
        if set(outs) & set(self.valid):
            return [THERE]
        if any(set(outs) & set(others) for others, unused in self.building.values()):
            return [LOCKED]
        if not set(ins) <= set(self.valid):
            return [ABSENT]
        self.building[k] = (sorted(set(outs)), sorted(set(ins)))
        self.shade(ins)
        return [0]

    def finish(self, k, sizes, refs):
        if not 0 <= k <= 7:
            return [RANGE]
        if k not in self.building:
            return [ABSENT]
        outs, ins = self.building[k]
        rows, left = [], list(refs)
        for out in outs:
            if not left or not 0 <= left[0] <= 64 or left[0] >= len(left):
                return [SHAPE]
            rows.append(set(left[1:1 + left[0]]))
            left = left[1 + left[0]:]
        if left or len(sizes) != len(outs):
            return [SHAPE]
        if any(not 0 <= size <= 9999 for size in sizes):
            return [RANGE]
        if not set().union(*rows) <= self.closure(ins) | set(outs):
            return [STRAY]
        if self.load() + sum(sizes) > self.room:
            return [FULL]
        self.valid.update(zip(outs, zip(sizes, rows)))
        self.building.pop(k)
        self.held[k] |= set(outs)
        self.shade(outs)
        return [0]

    def abort(self, k):
        if not 0 <= k <= 7:
            return [RANGE]
        if k not in self.building:
            return [ABSENT]
        self.building.pop(k)
        return [0]

    def root(self, r, p):
        if not 0 <= r <= 31 or not 0 <= p <= 127:
            return [RANGE]
        if p not in self.valid:
            return [ABSENT]
        self.roots[r] = p
        self.shade({p})
        return [0]

    def unroot(self, r):
        if not 0 <= r <= 31:
            return [RANGE]
        self.roots.pop(r, None)
        return [0]

    def collect(self, n):
        if n < 0:
            return [RANGE]
        if self.phase:
            return [BUSY]
        self.phase, self.target, self.won, self.grey = 1, n, 0, self.anchored()
        return [0]

    def work(self, n):
        if not 0 <= n <= 1000:
            return [RANGE]
        return [0] + [place for unit in range(n) for place in self.unit()]

    def cancel(self):
        self.phase, self.black, self.grey = 0, set(), set()
        return [0]

    def set_room(self, n):
        if not 0 <= n <= 100000:
            return [RANGE]
        if self.load() > n:
            return [FULL]
        self.room = n
        return [0]

    def all_valid(self):
        return [0] + sorted(self.valid)

    def all_live(self):
        return [0] + sorted(self.closure(self.anchored()))

    def why(self, p):
        if not 0 <= p <= 127:
            return [RANGE]
        if p not in self.valid:
            return [ABSENT]
        reaching = {place for place in self.valid if p in self.closure({place})}
        roots = [r for r in range(32) if self.roots.get(r) in reaching]
        ins = {k: set(self.building[k][1]) if k in self.building else set() for k in self.held}
        return [0, len(roots)] + roots + [k for k in range(8) if k in self.held and (self.held[k] | ins[k]) & reaching]

    def counts(self):
        return [0, len(self.valid), self.load(), self.phase, len(self.black), len(self.grey), self.won]

    def play(self, call):
        methods = [
            self.open, self.close, self.hold, self.begin, self.finish, self.abort, self.root, self.unroot,
            self.collect, self.work, self.cancel, self.set_room, self.all_valid, self.all_live, self.why, self.counts,
        ]
        arguments = call[1:]
        if call[0] in (3, 4):
            middle = 3 + call[2]
            arguments = [call[1], call[3:middle], call[middle + 1:]]
        return methods[call[0]](*arguments)


class Chooser:
    """Chooses calls that fit the model's store more often than not."""

    def __init__(self, seed, places):
        self.chance = random.Random(seed)
        self.places = places
        self.model = Model()

    def place(self):
        return self.chance.choice([self.chance.randrange(self.places)] * 30 + [-1, 127, 128])

    def some(self, most):
        return [self.place() for step in range(self.chance.randint(0, most))]

    def session(self):
        return self.chance.choice([0, 1, 2, 3] * 8 + [7, 8, -1])

    def begin(self):
        valid = sorted(self.model.valid)
        free = [place for place in range(self.places) if place not in valid]
        outs = self.chance.sample(free, min(len(free), self.chance.randint(1, 6)))
        ins = self.chance.sample(valid, min(len(valid), self.chance.randint(0, 3)))
        if self.chance.random() < 0.15:
            outs, ins = self.some(3), self.some(3)
        ready = [k for k in sorted(self.model.held) if k not in self.model.building]
        return begin(self.chance.choice(ready * 4 + [self.session()]), outs, ins)

    def finish(self):
        k = self.chance.choice(sorted(self.model.building) or [self.session()])
        outs, ins = self.model.building.get(k, ([], []))
        near = sorted(self.model.closure(ins) | set(outs)) or [0]
        if self.chance.random() < 0.1:
            near.append(self.place())
        refs = flat([row(self.chance.choices(near, k=self.chance.choice([0, 1, 1, 2, 2, 5]))) for out in outs])
        sizes = [self.chance.choice([0, 1, 5, 30, 9999]) for out in outs]
        if self.chance.random() < 0.1:
            refs = self.some(5)
        if self.chance.random() < 0.05:
            sizes = self.some(4)
        return finish(k, sizes, refs)

    def call(self):
        units = self.chance.choice([0, 1, 1, 1, 2, 3, 5, 1000, 1001, -1])
        won = self.chance.choice([0, 0, 0, 1, 6, 40, 12000, -1])
        makers = [
            (8, lambda: opened(self.session())), (6, lambda: closed(self.session())),
            (4, lambda: hold(self.session(), self.place())), (14, self.begin), (14, self.finish),
            (2, lambda: abort(self.session())), (5, lambda: root(self.chance.randint(-1, 8), self.place())),
            (4, lambda: unroot(self.chance.randint(-1, 8))), (8, lambda: collect(won)), (22, lambda: work(units)),
            (1, lambda: CANCEL), (1, lambda: room(self.chance.choice([-1, 0, 50, 20000, 100000, 100001]))),
            (3, lambda: VALID), (4, lambda: LIVE), (6, lambda: why(self.place())), (6, lambda: COUNTS),
        ]
        weights, choices = zip(*makers)
        return self.chance.choices(choices, weights)[0]()


class ModelTest(unittest.TestCase):
    def compare(self, seed, places, how_many):
        chooser = Chooser(seed, places)
        calls, expected = [], []
        for step in range(how_many):
            call = chooser.call()
            calls.append(call)
            expected.append(chooser.model.play(call))
        given = flat(calls)
        self.assertLessEqual(len(given), 17000)
        kept = list(given)
        told = parted(answers(given))
        self.assertEqual(given, kept)
        self.assertEqual(len(told), len(expected))
        for step, call in enumerate(calls):
            self.assertEqual(told[step], expected[step], f"seed {seed}, {places} places, step {step}: {call}")
        return {(call[0], answer[0]) for call, answer in zip(calls, expected)}

    def test_few_places(self):
        seen = set()
        for seed in range(150):
            seen |= self.compare(seed, 7, 120)
        refusals = {
            0: (-1, -3), 1: (-1, -2), 2: (-1, -2), 3: (-1, -2, -3, -4, -5), 4: (-1, -2, -6, -7, -8), 5: (-1, -2),
            6: (-1, -2), 7: (-1,), 8: (-1, -3), 9: (-1,), 10: (), 11: (-1, -7), 12: (), 13: (), 14: (-1, -2), 15: (),
        }
        # Each call was answered in each of its ways, so that none was left out of the comparison.
        self.assertEqual(seen, {(call, answer) for call in refusals for answer in (0,) + refusals[call]})

    def test_more_places(self):
        for seed in range(40):
            self.compare(1000 + seed, 20, 200)

    def test_the_longest_lists(self):
        for seed in range(6):
            self.compare(2000 + seed, 40, 400)
