"""Promise 10: work, with a unit while idle and while marking; how many units there are."""

from stepsweep.refusals import RANGE
from tests.helper import COUNTS, FAR, VALID, AnswersCase, StoreCase, collect, hold, opened, root, stored, work

DONE = [0]


class WorkRangeTest(StoreCase):
    def setUp(self):
        super().setUp()
        self.done(*stored({1: (1, [2]), 2: (2, [])}), root(0, 1))

    def test_while_idle(self):
        for n in (-1, 1001, -FAR, FAR):
            self.refused(RANGE, work(n))
        self.done(work(0), work(1), work(1000))

    def test_while_marking_and_while_sweeping(self):
        self.done(collect(0))
        for n in (-1, 1001, -FAR, FAR):
            self.refused(RANGE, work(n))
        self.done(work(3))
        for n in (-1, 1001, -FAR, FAR):
            self.refused(RANGE, work(n))

    def test_0_units_change_nothing(self):
        self.refused(0, work(0))
        self.done(collect(0))
        self.refused(0, work(0))
        self.done(work(1))
        self.refused(0, work(0))
        self.done(work(2))
        self.refused(0, work(0))

    def test_a_unit_while_idle_does_nothing(self):
        self.refused(0, work(1))
        self.refused(0, work(1000))


class UnitsTest(AnswersCase):
    """Each mark, the turn to sweeping, each knot and the end are a unit of their own."""

    before = stored({1: (1, [2]), 2: (2, []), 3: (4, []), 4: (8, [])}) + [root(0, 1)]
    steps = [
        (DONE, [0, 4, 15, 1, 1, 1, 0]), (DONE, [0, 4, 15, 1, 2, 0, 0]), (DONE, [0, 4, 15, 2, 2, 0, 0]),
        ([0, 3], [0, 3, 11, 2, 2, 0, 4]), ([0, 4], [0, 2, 3, 2, 2, 0, 12]), (DONE, [0, 2, 3, 0, 0, 0, 12]),
        (DONE, [0, 2, 3, 0, 0, 0, 12]),
    ]

    def test_one_by_one(self):
        pairs = [(collect(0), DONE), (COUNTS, [0, 4, 15, 1, 0, 1, 0])]
        for answer, counts in self.steps:
            pairs += [(work(1), answer), (COUNTS, counts)]
        self.expect(*pairs)

    def test_several_at_once_are_as_one_by_one(self):
        for n in range(1, len(self.steps) + 1):
            gone = [place for answer, counts in self.steps[:n] for place in answer[1:]]
            self.expect((collect(0), DONE), (work(n), [0] + gone), (COUNTS, self.steps[n - 1][1]))

    def test_over_the_end_and_beyond(self):
        self.expect(
            (collect(0), DONE), (work(1000), [0, 3, 4]), (work(1000), DONE), (COUNTS, [0, 2, 3, 0, 0, 0, 12]),
            (collect(0), DONE), (work(1000), DONE), (COUNTS, [0, 2, 3, 0, 0, 0, 0]),
        )

    def test_a_collection_does_not_begin_by_itself(self):
        self.expect((work(1000), DONE), (COUNTS, [0, 4, 15, 0, 0, 0, 0]), (VALID, [0, 1, 2, 3, 4]))


class MarkingCase(StoreCase):
    things = {}

    def setUp(self):
        super().setUp()
        self.done(*stored(self.things))

    def worked(self, black, grey):
        self.done(work(1))
        self.assertEqual(sorted(self.state.collector.black), black)
        self.assertEqual(sorted(self.state.collector.grey), grey)
        self.assertEqual(self.state.collector.phase, 1)


class SmallestGreyTest(MarkingCase):
    things = {2: (1, []), 10: (1, [2, 64]), 33: (1, [7]), 64: (1, []), 7: (1, []), 100: (1, [])}

    def test_the_smallest_goes_first(self):
        self.done(root(0, 100), root(1, 33), root(2, 10), collect(0))
        self.worked([10], [2, 33, 64, 100])
        self.worked([2, 10], [33, 64, 100])
        self.worked([2, 10, 33], [7, 64, 100])
        self.worked([2, 7, 10, 33], [64, 100])
        self.worked([2, 7, 10, 33, 64], [100])
        self.worked([2, 7, 10, 33, 64, 100], [])

    def test_a_smaller_one_that_is_shaded_meanwhile_goes_next(self):
        self.done(root(0, 100), root(1, 33), collect(0))
        self.worked([33], [7, 100])
        self.done(opened(0), hold(0, 2))
        self.worked([2, 33], [7, 100])

    def test_the_turn_to_sweeping_is_a_unit(self):
        self.done(root(0, 100), collect(0))
        self.worked([100], [])
        self.told(COUNTS, 0, 6, 6, 1, 1, 0, 0)
        self.done(work(1))
        self.told(COUNTS, 0, 6, 6, 2, 1, 0, 0)

    def test_nothing_is_grey_at_once(self):
        self.done(collect(0))
        self.told(COUNTS, 0, 6, 6, 1, 0, 0, 0)
        self.done(work(1))
        self.told(COUNTS, 0, 6, 6, 2, 0, 0, 0)

    def test_shaded_ahead_of_the_turn_it_is_marked_first(self):
        self.done(collect(0), opened(0), hold(0, 10))
        self.worked([10], [2, 64])


class MarkedReferencesTest(MarkingCase):
    # 1 mentions itself, 1 and 2 one another, 3 is mentioned by both, 4 mentions all.
    things = {1: (1, [1, 2, 3]), 2: (1, [1, 3]), 3: (1, []), 4: (1, [1, 2, 3, 4])}

    def test_a_place_that_mentions_itself_is_black_alone(self):
        self.done(root(0, 4), collect(0))
        self.worked([4], [1, 2, 3])
        self.worked([1, 4], [2, 3])

    def test_black_references_stay_black_and_grey_ones_grey(self):
        self.done(root(0, 1), collect(0))
        self.worked([1], [2, 3])
        self.worked([1, 2], [3])
        self.worked([1, 2, 3], [])

    def test_marks_end_at_what_is_reached(self):
        self.done(root(0, 2), collect(0), work(4))
        self.told(COUNTS, 0, 4, 4, 2, 3, 0, 0)
        self.told(work(1000), 0, 4)
