"""Promises 5 and 6: finish, abort."""

from stepsweep.refusals import ABSENT, FULL, RANGE, SHAPE, STRAY
from tests.helper import FAR, StoreCase, abort, begin, closed, finish, hold, opened


class FinishCase(StoreCase):
    """10 mentions 11, 11 mentions 12, 13 stands alone; session 0 builds 3 and 5 over 10."""

    def setUp(self):
        super().setUp()
        self.done(opened(0), opened(1), opened(7))
        self.built(1, [10, 11, 12, 13], [], [1, 2, 3, 4], [1, 11, 1, 12, 0, 0])
        self.done(begin(0, [5, 3], [10]))


class FinishTest(FinishCase):
    def test_outs_are_valid_with_the_sizes_in_their_order(self):
        self.done(finish(0, [30, 50], [0, 0]))
        self.assertEqual(self.state.things.sizes[3], 30)
        self.assertEqual(self.state.things.sizes[5], 50)
        self.assertEqual(self.state.things.load(), 90)

    def test_references_belong_to_the_outs_in_their_order(self):
        self.done(finish(0, [0, 0], [2, 5, 10, 1, 3]))
        self.assertEqual(self.references(3), [5, 10])
        self.assertEqual(self.references(5), [3])

    def test_references_are_in_order_each_once(self):
        self.done(finish(0, [0, 0], [5, 12, 3, 12, 5, 3, 0]))
        self.assertEqual(self.references(3), [3, 5, 12])

    def test_references_within_the_closure_of_the_ins(self):
        self.done(finish(0, [0, 0], [3, 10, 11, 12, 0]))

    def test_building_is_over(self):
        self.done(finish(0, [0, 0], [0, 0]))
        self.assertFalse(self.session(0).building)
        self.assertEqual((self.session(0).outs, self.session(0).ins), ([], []))
        self.refused(ABSENT, finish(0, [0, 0], [0, 0]))
        self.refused(ABSENT, abort(0))
        self.done(begin(0, [6]))

    def test_session_holds_the_outs_beside_what_it_held(self):
        self.done(hold(0, 99), finish(0, [0, 0], [0, 0]))
        self.assertEqual(sorted(self.session(0).held), [3, 5, 99])

    def test_outs_that_stood_several_times_have_one_size(self):
        self.done(begin(7, [9, 8, 9, 8]))
        self.refused(SHAPE, finish(7, [1, 2, 3, 4], [0, 0, 0, 0]))
        self.done(finish(7, [1, 2], [0, 0]))
        self.assertEqual(self.state.things.sizes[8], 1)
        self.assertEqual(self.state.things.sizes[9], 2)

    def test_outs_may_mention_themselves_and_one_another(self):
        self.done(finish(0, [0, 0], [1, 3, 2, 3, 5]))

    def test_a_knot_is_gone_through_to_its_end(self):
        self.done(finish(0, [0, 0], [1, 5, 2, 3, 11]))
        self.built(0, [6], [3], [0], [4, 3, 5, 11, 12])

    def test_a_long_chain_is_gone_through_to_its_end(self):
        self.done(abort(0))
        places = list(range(14, 128))
        refs = []
        for place in places[:-1]:
            refs += [1, place + 1]
        self.built(7, places, [], [1] * len(places), refs + [0])
        self.built(7, [0], [14], [1], [1, 127])

    def test_places_at_both_ends(self):
        self.built(7, [0, 127], [], [1, 1], [1, 127, 1, 0])
        self.assertEqual(self.references(0), [127])
        self.assertEqual(self.references(127), [0])


class FinishRefusalTest(FinishCase):
    def test_range_of_k(self):
        for k in (-1, 8, -FAR, FAR):
            self.refused(RANGE, finish(k, [0, 0], [0, 0]))

    def test_absent_where_closed_or_not_building(self):
        self.refused(ABSENT, finish(2, [0, 0], [0, 0]))
        self.refused(ABSENT, finish(7, [0, 0], [0, 0]))
        self.done(closed(7))
        self.refused(ABSENT, finish(7, [0, 0], [0, 0]))

    def test_shape_of_sizes(self):
        for sizes in ([], [0], [0, 0, 0]):
            self.refused(SHAPE, finish(0, sizes, [0, 0]))

    def test_shape_where_refs_end_too_soon(self):
        for refs in ([], [0], [1, 3], [2, 3, 5], [0, 1], [1, 3, 2, 3], [64], [0, 64, 3]):
            self.refused(SHAPE, finish(0, [0, 0], refs))

    def test_shape_where_something_stands_behind_the_last(self):
        for refs in ([0, 0, 0], [1, 3, 1, 5, 0], [0, 0, 3]):
            self.refused(SHAPE, finish(0, [0, 0], refs))

    def test_count_of_references_to_its_limits(self):
        for count in (-1, 65, -FAR, FAR):
            self.refused(SHAPE, finish(0, [0, 0], [count] + [3] * 65 + [0]))
            self.refused(SHAPE, finish(0, [0, 0], [0, count] + [3] * 65))
        self.refused(SHAPE, finish(0, [0, 0], [0, 1, 3, -1]))
        self.refused(SHAPE, finish(0, [0, 0], [0, -1]))
        self.done(finish(0, [0, 0], [64] + [3] * 64 + [64] + [5] * 64))
        self.assertEqual(self.references(3), [3])
        self.assertEqual(self.references(5), [5])

    def test_no_references_at_all(self):
        self.done(finish(0, [0, 0], [0, 0]))
        self.assertEqual(self.references(3), [])
        self.assertEqual(self.references(5), [])

    def test_range_of_sizes(self):
        for size in (-1, 10000, -FAR, FAR):
            self.refused(RANGE, finish(0, [size, 0], [0, 0]))
            self.refused(RANGE, finish(0, [0, size], [0, 0]))
        self.done(finish(0, [0, 9999], [0, 0]))

    def test_stray_where_neither_reached_nor_built(self):
        for place in (13, 4, -1, 128, -FAR, FAR):
            self.refused(STRAY, finish(0, [0, 0], [1, place, 0]))
            self.refused(STRAY, finish(0, [0, 0], [0, 2, 3, place]))

    def test_stray_where_only_held(self):
        self.done(hold(0, 13))
        self.refused(STRAY, finish(0, [0, 0], [1, 13, 0]))

    def test_stray_where_another_session_builds_it(self):
        self.done(begin(7, [6]))
        self.refused(STRAY, finish(0, [0, 0], [1, 6, 0]))

    def test_stray_where_it_reaches_an_in_but_is_not_reached(self):
        self.done(abort(0), begin(0, [3], [11]))
        self.refused(STRAY, finish(0, [0], [1, 10]))

    def test_full_with_one_more_than_the_room(self):
        self.done(begin(7, list(range(20, 30))))
        nearly = [9999] * 9 + [9999]
        self.done(finish(7, nearly, [0] * 10))
        # 99990 there, and 10 from the places before: just the room
        self.assertEqual(self.state.things.load(), 100000)
        self.refused(FULL, finish(0, [0, 1], [0, 0]))
        self.done(finish(0, [0, 0], [0, 0]))

    def test_just_the_room_in_one_finish(self):
        self.done(begin(7, list(range(20, 31))))
        self.refused(FULL, finish(7, [9999] * 10 + [1], [0] * 11))
        self.done(finish(7, [9999] * 10 + [0], [0] * 11))


class FinishOrderTest(FinishCase):
    """Of two refusals that fit, the one told first is answered."""

    def test_range_of_k_ahead_of_all(self):
        self.refused(RANGE, finish(8, [], []))

    def test_absent_ahead_of_shape_and_sizes(self):
        self.refused(ABSENT, finish(2, [], [7]))
        self.refused(ABSENT, finish(7, [], [7]))
        self.refused(ABSENT, finish(7, [-1], [0]))

    def test_shape_ahead_of_range_of_sizes(self):
        self.refused(SHAPE, finish(0, [-1], [0, 0]))
        self.refused(SHAPE, finish(0, [10000, 0], [0, 0, 0]))

    def test_shape_ahead_of_stray(self):
        self.refused(SHAPE, finish(0, [0, 0], [1, 13, 0, 0]))
        self.refused(SHAPE, finish(0, [0], [1, 13, 0]))

    def test_range_of_sizes_ahead_of_stray(self):
        self.refused(RANGE, finish(0, [0, 10000], [1, 13, 0]))

    def test_later_ones_ahead_of_full(self):
        self.built(7, list(range(20, 30)), [], [9999] * 10, [0] * 10)
        self.refused(SHAPE, finish(0, [1, 1, 1], [0, 0]))
        self.refused(SHAPE, finish(0, [1, 1], [0]))
        self.refused(RANGE, finish(0, [1, 10000], [0, 0]))
        self.refused(STRAY, finish(0, [1, 1], [1, 13, 0]))
        self.refused(FULL, finish(0, [1, 1], [0, 0]))


class AbortTest(FinishCase):
    def test_building_is_over_and_nothing_is_entered(self):
        self.done(hold(0, 99), abort(0))
        self.assertFalse(self.session(0).building)
        self.assertEqual((self.session(0).outs, self.session(0).ins), ([], []))
        self.assertEqual(sorted(self.session(0).held), [99])
        self.assertFalse(self.state.is_valid(3))
        self.refused(ABSENT, finish(0, [0, 0], [0, 0]))

    def test_may_begin_again(self):
        self.done(abort(0), begin(0, [3]), finish(0, [1], [0]))

    def test_other_buildings_go_on(self):
        self.done(begin(7, [6]), abort(0))
        self.assertTrue(self.session(7).building)

    def test_range(self):
        for k in (-1, 8, -FAR, FAR):
            self.refused(RANGE, abort(k))

    def test_absent_where_closed_or_not_building(self):
        self.refused(ABSENT, abort(2))
        self.refused(ABSENT, abort(7))
        self.done(abort(0))
        self.refused(ABSENT, abort(0))
