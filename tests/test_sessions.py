"""Promises 1 to 3: open, close, hold."""

from stepsweep.refusals import ABSENT, BUSY, RANGE
from tests.helper import FAR, StoreCase, abort, begin, closed, finish, hold, opened

WRONG_SESSIONS = (-1, 8, -FAR, FAR)
WRONG_PLACES = (-1, 128, -FAR, FAR)


class OpenTest(StoreCase):
    def test_all_sessions_are_closed_at_first(self):
        self.assertEqual(self.state.sessions, {})

    def test_opens_each_session_from_first_to_last(self):
        for k in range(8):
            self.done(opened(k))
        self.assertEqual(sorted(self.state.sessions), list(range(8)))

    def test_holds_nothing_and_builds_nothing(self):
        self.done(opened(3))
        self.assertEqual(self.session(3).held, {})
        self.assertFalse(self.session(3).building)

    def test_range(self):
        for k in WRONG_SESSIONS:
            self.refused(RANGE, opened(k))

    def test_busy_where_it_is_open(self):
        self.done(opened(0), opened(7), hold(7, 4))
        self.refused(BUSY, opened(0))
        self.refused(BUSY, opened(7))


class CloseTest(StoreCase):
    def test_closes_one_alone(self):
        self.done(opened(0), opened(7), closed(7))
        self.assertEqual(list(self.state.sessions), [0])
        self.done(closed(0))
        self.assertEqual(self.state.sessions, {})

    def test_what_it_held_it_holds_no_more(self):
        self.done(opened(2), hold(2, 9), closed(2), opened(2))
        self.assertEqual(self.session(2).held, {})

    def test_its_building_is_over(self):
        self.done(opened(2), begin(2, [9]), closed(2), opened(2))
        self.refused(ABSENT, finish(2, [1], [0]))
        self.refused(ABSENT, abort(2))
        self.done(begin(2, [9]))

    def test_its_outs_are_no_longer_locked(self):
        self.done(opened(2), opened(3), begin(2, [9]), closed(2), begin(3, [9]))

    def test_what_it_built_stays_valid(self):
        self.done(opened(2))
        self.built(2, [9], [], [5], [0])
        self.done(closed(2))
        self.assertTrue(self.state.is_valid(9))

    def test_range(self):
        for k in WRONG_SESSIONS:
            self.refused(RANGE, closed(k))

    def test_absent_where_it_is_closed(self):
        self.refused(ABSENT, closed(0))
        self.done(opened(0), closed(0))
        self.refused(ABSENT, closed(0))
        self.refused(ABSENT, closed(7))


class HoldTest(StoreCase):
    def test_holds_places_that_are_not_valid(self):
        self.done(opened(0), hold(0, 0), hold(0, 127))
        self.assertEqual(sorted(self.session(0).held), [0, 127])

    def test_holds_a_valid_place(self):
        self.done(opened(0), opened(7))
        self.built(0, [5], [], [1], [0])
        self.done(hold(7, 5))
        self.assertEqual(sorted(self.session(7).held), [5])

    def test_holding_twice_is_as_once(self):
        self.done(opened(0), hold(0, 4), hold(0, 4))
        self.assertEqual(sorted(self.session(0).held), [4])

    def test_holds_on_while_and_after_building(self):
        self.done(opened(0), hold(0, 4), begin(0, [6]), hold(0, 5), abort(0))
        self.assertEqual(sorted(self.session(0).held), [4, 5])

    def test_range(self):
        self.done(opened(0), opened(7))
        for k in WRONG_SESSIONS:
            self.refused(RANGE, hold(k, 5))
        for p in WRONG_PLACES:
            self.refused(RANGE, hold(0, p))

    def test_absent_where_the_session_is_closed(self):
        self.refused(ABSENT, hold(0, 5))
        self.refused(ABSENT, hold(7, 5))

    def test_range_ahead_of_absent(self):
        self.refused(RANGE, hold(0, 128))
