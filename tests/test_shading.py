"""What hold, begin, finish and root shade, in each phase of the collection; promise 15's marks."""

from stepsweep.collector import IDLE, MARKING, SWEEPING
from stepsweep.refusals import ABSENT, FULL, RANGE, THERE
from tests.helper import COUNTS, StoreCase, abort, begin, closed, finish, hold, opened, play, root, unroot


class ShadingCase(StoreCase):
    """10 mentions 11, 11 mentions 12, 13 mentions 11."""

    phase = IDLE

    def setUp(self):
        super().setUp()
        self.done(opened(0), opened(1))
        self.built(1, [10, 11, 12, 13], [], [1, 2, 3, 4], [1, 11, 1, 12, 0, 1, 11])
        self.state.collector.phase = self.phase

    def marks(self):
        return sorted(self.state.collector.black), sorted(self.state.collector.grey)


class IdleTest(ShadingCase):
    def test_nothing_is_shaded(self):
        self.done(hold(0, 10), begin(0, [20], [10]), finish(0, [0], [1, 12]), root(0, 13))
        self.assertEqual(self.marks(), ([], []))


class MarkingTest(ShadingCase):
    phase = MARKING

    def test_hold_makes_the_place_alone_grey(self):
        self.done(hold(0, 10))
        self.assertEqual(self.marks(), ([], [10]))

    def test_hold_shades_no_place_that_is_not_valid(self):
        self.done(hold(0, 50))
        self.assertEqual(self.marks(), ([], []))

    def test_begin_makes_the_ins_grey(self):
        self.done(begin(0, [20], [13, 10, 13]))
        self.assertEqual(self.marks(), ([], [10, 13]))

    def test_finish_makes_the_outs_grey(self):
        self.done(begin(0, [21, 20]), finish(0, [0, 0], [1, 21, 0]))
        self.assertEqual(self.marks(), ([], [20, 21]))

    def test_root_makes_its_place_grey(self):
        self.done(root(0, 13))
        self.assertEqual(self.marks(), ([], [13]))

    def test_black_stays_black_and_grey_stays_grey(self):
        self.state.collector.make_black([10])
        self.state.collector.make_grey([13])
        self.done(hold(0, 10), hold(0, 13), root(1, 10), begin(0, [20], [10, 13]))
        self.assertEqual(self.marks(), ([10], [13]))

    def test_letting_go_takes_no_mark_back(self):
        self.done(root(0, 13), hold(0, 10), begin(0, [20], [12]))
        self.done(unroot(0), abort(0), closed(0))
        self.assertEqual(self.marks(), ([], [10, 12, 13]))

    def test_refused_calls_shade_nothing(self):
        self.refused(ABSENT, hold(2, 10))
        self.refused(THERE, begin(0, [10], [10]))
        self.refused(ABSENT, begin(0, [20], [10, 50]))
        self.refused(RANGE, root(32, 10))
        self.done(begin(0, list(range(20, 31))))
        self.refused(FULL, finish(0, [9999] * 11, [0] * 11))
        self.assertEqual(self.marks(), ([], []))


class SweepingTest(ShadingCase):
    phase = SWEEPING

    def test_hold_makes_the_closure_black(self):
        self.done(hold(0, 10))
        self.assertEqual(self.marks(), ([10, 11, 12], []))

    def test_hold_shades_no_place_that_is_not_valid(self):
        self.done(hold(0, 50))
        self.assertEqual(self.marks(), ([], []))

    def test_begin_makes_the_closure_of_the_ins_black(self):
        self.done(begin(0, [20], [12, 13]))
        self.assertEqual(self.marks(), ([11, 12, 13], []))

    def test_finish_makes_the_closure_of_the_outs_black(self):
        self.done(begin(0, [20, 21], [11]), finish(0, [0, 0], [1, 12, 1, 20]))
        self.assertEqual(self.marks(), ([11, 12, 20, 21], []))

    def test_finish_without_ins_makes_the_outs_black(self):
        self.done(begin(0, [20, 21]), finish(0, [0, 0], [0, 0]))
        self.assertEqual(self.marks(), ([20, 21], []))

    def test_root_makes_the_closure_black(self):
        self.done(root(0, 11))
        self.assertEqual(self.marks(), ([11, 12], []))

    def test_a_closure_is_gone_through_behind_a_black_place(self):
        self.state.collector.make_black([10])
        self.done(root(0, 10))
        self.assertEqual(self.marks(), ([10, 11, 12], []))


class CountedMarksTest(ShadingCase):
    def test_phase_black_grey_and_won_stand_in_this_order(self):
        collector = self.state.collector
        collector.phase = MARKING
        collector.make_black([10, 11, 12])
        collector.make_grey([13, 10])
        collector.won = 77
        self.assertEqual(play(self.state, COUNTS), [0, 4, 10, MARKING, 3, 1, 77])

    def test_won_is_told_while_idle_too(self):
        self.state.collector.won = 5
        self.assertEqual(play(self.state, COUNTS), [0, 4, 10, IDLE, 0, 0, 5])

    def test_phases_have_the_document_s_numbers(self):
        self.assertEqual((IDLE, MARKING, SWEEPING), (0, 1, 2))
