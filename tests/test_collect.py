"""Promises 9, 11 and 12: collect, cancel, room."""

from stepsweep.refusals import BUSY, FULL, RANGE
from tests.helper import (
    CANCEL, COUNTS, FAR, LIVE, VALID, AnswersCase, StoreCase, begin, closed, collect, finish, hold, opened, root,
    room, stored, work,
)

DONE = [0]
# 1 mentions 2, 2 mentions 3, 4 and 5 stand alone; the load is 31.
THINGS = {1: (1, [2]), 2: (2, [3]), 3: (4, []), 4: (8, []), 5: (16, [])}


class CollectCase(StoreCase):
    def setUp(self):
        super().setUp()
        self.done(*stored(THINGS))


class CollectTest(CollectCase):
    def greys(self):
        self.done(collect(0))
        self.assertEqual(self.state.collector.black, {})
        return sorted(self.state.collector.grey)

    def test_nothing_is_anchored(self):
        self.assertEqual(self.greys(), [])
        self.told(COUNTS, 0, 5, 31, 1, 0, 0, 0)

    def test_roots_are_grey_but_not_what_they_reach(self):
        self.done(root(0, 1), root(31, 4), root(5, 4))
        self.assertEqual(self.greys(), [1, 4])

    def test_what_sessions_hold_is_grey(self):
        self.done(opened(0), hold(0, 5), opened(6), hold(6, 2), hold(6, 5))
        self.assertEqual(self.greys(), [2, 5])

    def test_ins_are_grey_but_outs_are_not(self):
        self.done(opened(0), begin(0, [20], [3, 1]))
        self.assertEqual(self.greys(), [1, 3])

    def test_what_is_held_but_not_valid_is_not_grey(self):
        self.done(opened(0), hold(0, 99), hold(0, 1))
        self.assertEqual(self.greys(), [1])

    def test_a_closed_session_anchors_nothing(self):
        self.done(opened(0), hold(0, 5), begin(0, [20], [1]), closed(0))
        self.assertEqual(self.greys(), [])

    def test_the_number_to_be_won_may_be_far(self):
        self.done(collect(FAR))
        self.assertEqual(self.state.collector.to_be_won, FAR)
        self.told(work(1000), 0, 1, 2, 3, 4, 5)

    def test_range_where_n_is_below_0(self):
        self.refused(RANGE, collect(-1))
        self.refused(RANGE, collect(-FAR))

    def test_busy_while_marking_and_while_sweeping(self):
        self.done(collect(0))
        self.refused(BUSY, collect(0))
        self.done(work(1))
        self.refused(BUSY, collect(7))

    def test_range_ahead_of_busy(self):
        self.done(collect(3))
        self.refused(RANGE, collect(-1))

    def test_idle_again_at_the_collection_s_end(self):
        self.done(root(0, 1), collect(0))
        self.told(work(1000), 0, 4, 5)
        self.told(COUNTS, 0, 3, 7, 0, 0, 0, 24)
        self.done(collect(0))
        self.told(COUNTS, 0, 3, 7, 1, 0, 1, 0)


class CancelTest(AnswersCase):
    before = stored(THINGS) + [root(0, 1)]

    def test_while_idle(self):
        self.expect((CANCEL, DONE), (CANCEL, DONE), (COUNTS, [0, 5, 31, 0, 0, 0, 0]))
        self.expect((CANCEL, DONE), before=[])

    def test_while_marking(self):
        self.expect(
            (collect(0), DONE), (work(1), DONE), (COUNTS, [0, 5, 31, 1, 1, 1, 0]),
            (CANCEL, DONE), (COUNTS, [0, 5, 31, 0, 0, 0, 0]), (work(1000), DONE), (VALID, [0, 1, 2, 3, 4, 5]),
        )

    def test_while_sweeping_the_number_won_stays_told(self):
        self.expect(
            (collect(0), DONE), (work(5), [0, 4]), (COUNTS, [0, 4, 23, 2, 3, 0, 8]),
            (CANCEL, DONE), (COUNTS, [0, 4, 23, 0, 0, 0, 8]), (work(1000), DONE), (VALID, [0, 1, 2, 3, 5]),
        )

    def test_collect_again_afterwards_begins_anew(self):
        self.expect(
            (collect(0), DONE), (work(5), [0, 4]), (CANCEL, DONE),
            (collect(0), DONE), (COUNTS, [0, 4, 23, 1, 0, 1, 0]), (work(1000), [0, 5]),
            (COUNTS, [0, 3, 7, 0, 0, 0, 16]),
        )

    def test_the_number_to_be_won_is_that_of_the_new_collection(self):
        self.expect(
            (collect(1), DONE), (work(5), [0, 4]), (CANCEL, DONE), (collect(0), DONE), (work(1000), [0, 5]),
        )

    def test_what_was_marked_is_so_no_more(self):
        self.expect(
            (opened(0), DONE), (collect(0), DONE), (hold(0, 4), DONE), (closed(0), DONE), (CANCEL, DONE),
            (collect(0), DONE), (work(1000), [0, 4, 5]),
        )

    def test_behind_an_ended_collection(self):
        self.expect(
            (collect(0), DONE), (work(1000), [0, 4, 5]), (CANCEL, DONE), (COUNTS, [0, 3, 7, 0, 0, 0, 24]),
        )


class RoomTest(CollectCase):
    def test_range(self):
        for n in (-1, 100001, -FAR, FAR):
            self.refused(RANGE, room(n))

    def test_full_where_the_load_is_more(self):
        for n in (30, 1, 0):
            self.refused(FULL, room(n))

    def test_range_ahead_of_full(self):
        self.refused(RANGE, room(-1))

    def test_just_the_load(self):
        self.done(room(31))
        self.assertEqual(self.state.room, 31)

    def test_up_to_its_limit(self):
        self.done(room(31), room(100000))
        self.assertEqual(self.state.room, 100000)

    def test_0_with_nothing_valid_or_no_load(self):
        self.done(collect(0))
        self.told(work(1000), 0, 1, 2, 3, 4, 5)
        self.done(room(0), *stored({6: (0, [])}), room(0))

    def test_finish_against_a_smaller_room(self):
        self.done(room(40), opened(0), begin(0, [20, 21]))
        self.refused(FULL, finish(0, [5, 5], [0, 0]))
        self.done(finish(0, [5, 4], [0, 0]))
        self.refused(FULL, room(39))

    def test_finish_against_a_room_made_smaller_while_building(self):
        self.done(opened(0), begin(0, [20]), room(31))
        self.refused(FULL, finish(0, [1], [0]))
        self.done(room(32), finish(0, [1], [0]))

    def test_what_is_taken_away_makes_room(self):
        self.done(room(31), root(0, 1), opened(0), begin(0, [20]))
        self.refused(FULL, finish(0, [24], [0]))
        self.done(collect(0))
        self.told(work(1000), 0, 4, 5)
        self.refused(FULL, finish(0, [25], [0]))
        self.done(finish(0, [24], [0]))

    def test_a_smaller_room_changes_nothing_else(self):
        self.done(room(31))
        self.told(VALID, 0, 1, 2, 3, 4, 5)
        self.told(COUNTS, 0, 5, 31, 0, 0, 0, 0)
        self.told(LIVE, 0)
