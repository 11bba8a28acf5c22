"""Promise 4: begin."""

from stepsweep.refusals import ABSENT, BUSY, LOCKED, RANGE, THERE
from tests.helper import FAR, StoreCase, abort, begin, closed, finish, opened

WRONG_PLACES = (-1, 128, -FAR, FAR)


class BeginCase(StoreCase):
    """Session 0 has built 10 (which mentions 11) and 11, session 1 builds 20."""

    def setUp(self):
        super().setUp()
        self.done(opened(0), opened(1), opened(7))
        self.built(0, [10, 11], [], [1, 2], [1, 11, 0])
        self.done(begin(1, [20]))


class BeginTest(BeginCase):
    def test_keeps_outs_and_ins_in_order_each_once(self):
        self.done(begin(0, [127, 3, 0, 3, 127], [11, 10, 11]))
        self.assertTrue(self.session(0).building)
        self.assertEqual(self.session(0).outs, [0, 3, 127])
        self.assertEqual(self.session(0).ins, [10, 11])

    def test_order_is_that_of_size(self):
        self.built(7, [9, 16], [], [0, 0], [0, 0])
        self.done(begin(7, [64, 1, 32, 8], [16, 9]))
        self.assertEqual(self.session(7).outs, [1, 8, 32, 64])
        self.assertEqual(self.session(7).ins, [9, 16])

    def test_outs_are_not_valid_yet(self):
        self.done(begin(0, [3]))
        self.assertFalse(self.state.is_valid(3))
        self.assertNotIn(3, self.session(0).held)

    def test_ins_may_be_empty(self):
        self.done(begin(7, [3]))
        self.assertEqual(self.session(7).ins, [])

    def test_two_hundred_numbers_count_once_each(self):
        self.done(begin(7, [3] * 200, [10] * 200))
        self.assertEqual(self.session(7).outs, [3])
        self.assertEqual(self.session(7).ins, [10])

    def test_ins_may_be_shared_between_sessions(self):
        self.done(begin(0, [3], [10]), begin(7, [4], [10]))

    def test_range_of_k(self):
        for k in (-1, 8, -FAR, FAR):
            self.refused(RANGE, begin(k, [3]))

    def test_range_of_outs_and_ins(self):
        for place in WRONG_PLACES:
            self.refused(RANGE, begin(0, [3, place]))
            self.refused(RANGE, begin(0, [place, 3]))
            self.refused(RANGE, begin(0, [3], [10, place]))
            self.refused(RANGE, begin(0, [3], [place, 10]))

    def test_range_where_outs_is_empty(self):
        self.refused(RANGE, begin(0, []))
        self.refused(RANGE, begin(0, [], [10]))

    def test_absent_where_the_session_is_closed(self):
        self.refused(ABSENT, begin(2, [3]))
        self.done(closed(7))
        self.refused(ABSENT, begin(7, [3]))

    def test_busy_where_it_is_building(self):
        self.refused(BUSY, begin(1, [3]))

    def test_there_where_one_of_outs_is_valid(self):
        self.refused(THERE, begin(0, [3, 10]))
        self.refused(THERE, begin(0, [11, 12]))

    def test_locked_where_another_session_builds_it(self):
        self.refused(LOCKED, begin(0, [3, 20]))
        self.refused(LOCKED, begin(7, [20, 21]))

    def test_locked_no_more_when_that_building_is_over(self):
        self.done(abort(1), begin(0, [20]))

    def test_there_when_that_building_is_finished(self):
        self.done(finish(1, [1], [0]))
        self.refused(THERE, begin(0, [20]))

    def test_absent_where_one_of_ins_is_not_valid(self):
        self.refused(ABSENT, begin(0, [3], [12]))
        self.refused(ABSENT, begin(0, [3], [10, 12]))
        self.refused(ABSENT, begin(0, [3], [3]))
        self.refused(ABSENT, begin(0, [3], [20]))


class BeginOrderTest(BeginCase):
    """Of two refusals that fit, the one told first is answered."""

    def test_range_ahead_of_absent_session(self):
        self.refused(RANGE, begin(2, []))
        self.refused(RANGE, begin(2, [128]))
        self.refused(RANGE, begin(2, [3], [-1]))

    def test_range_ahead_of_busy(self):
        self.refused(RANGE, begin(1, []))
        self.refused(RANGE, begin(1, [3], [128]))

    def test_range_ahead_of_there_and_locked(self):
        self.refused(RANGE, begin(0, [10, 128]))
        self.refused(RANGE, begin(0, [20], [128]))

    def test_absent_session_ahead_of_there_and_locked(self):
        self.refused(ABSENT, begin(2, [10]))
        self.refused(ABSENT, begin(2, [20]))

    def test_busy_ahead_of_there_locked_and_absent_ins(self):
        self.done(begin(7, [30]))
        self.refused(BUSY, begin(1, [10]))
        self.refused(BUSY, begin(1, [30]))
        self.refused(BUSY, begin(1, [3], [12]))

    def test_there_ahead_of_locked_and_absent_ins(self):
        self.refused(THERE, begin(0, [20, 10]))
        self.refused(THERE, begin(0, [10, 20]))
        self.refused(THERE, begin(0, [10], [12]))

    def test_locked_ahead_of_absent_ins(self):
        self.refused(LOCKED, begin(0, [20], [12]))
