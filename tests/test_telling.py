"""Promises 13 and 14: valid, live, why."""

from stepsweep.refusals import ABSENT, RANGE
from tests.helper import (
    COUNTS, FAR, LIVE, VALID, AnswersCase, StoreCase, abort, begin, chained, closed, collect, finish, hold, opened,
    root, seen, stored, unroot, why, work,
)

DONE = [0]
# 1 mentions 2, 2 and 3 one another, 3 mentions 4; 5 mentions 4; 6 stands alone. Their sizes fall as they rise.
THINGS = {1: (60, [2]), 2: (50, [3]), 3: (40, [2, 4]), 4: (30, []), 5: (20, [4]), 6: (10, [])}


class ValidTest(AnswersCase):
    def test_nothing_at_first(self):
        self.expect((VALID, DONE), (LIVE, DONE))

    def test_in_the_places_own_order(self):
        self.expect((VALID, [0, 1, 2, 3, 4, 5, 6]), before=stored(THINGS))
        self.expect((VALID, [0, 9, 10, 100]), before=stored({100: (1, []), 9: (7, []), 10: (3, [])}))

    def test_all_places(self):
        things = {place: (0, []) for place in range(128)}
        self.expect((VALID, [0] + list(range(128))), (LIVE, DONE), before=stored(things))

    def test_outs_are_valid_from_finish_on(self):
        self.expect(
            (opened(0), DONE), (begin(0, [4, 2]), DONE), (VALID, DONE), (finish(0, [0, 0], [0, 0]), DONE),
            (VALID, [0, 2, 4]), (closed(0), DONE), (VALID, [0, 2, 4]),
        )

    def test_what_is_taken_away_is_valid_no_more_step_by_step(self):
        self.expect(
            (collect(0), DONE), (work(2), [0, 1]), (VALID, [0, 2, 3, 4, 5, 6]), (work(1), [0, 2, 3]),
            (VALID, [0, 4, 5, 6]), (work(1), [0, 5]), (VALID, [0, 4, 6]), (work(1), [0, 4]), (VALID, [0, 6]),
            (work(1), [0, 6]), (VALID, DONE), before=stored(THINGS),
        )


class LiveTest(AnswersCase):
    before = stored(THINGS)

    def test_nothing_is_anchored(self):
        self.expect((LIVE, DONE))

    def test_what_a_root_reaches(self):
        self.expect(
            (root(0, 5), DONE), (LIVE, [0, 4, 5]), (root(31, 1), DONE), (LIVE, [0, 1, 2, 3, 4, 5]),
            (unroot(0), DONE), (LIVE, [0, 1, 2, 3, 4]), (root(31, 4), DONE), (LIVE, [0, 4]),
        )

    def test_what_a_session_holds(self):
        self.expect(
            (opened(3), DONE), (hold(3, 6), DONE), (LIVE, [0, 6]), (hold(3, 3), DONE), (LIVE, [0, 2, 3, 4, 6]),
            (closed(3), DONE), (LIVE, DONE),
        )

    def test_what_is_among_the_ins(self):
        self.expect(
            (opened(3), DONE), (begin(3, [20], [5, 6]), DONE), (LIVE, [0, 4, 5, 6]), (abort(3), DONE), (LIVE, DONE),
        )

    def test_outs_are_live_from_finish_on_as_they_are_held(self):
        self.expect(
            (opened(3), DONE), (begin(3, [20, 21], [5]), DONE), (finish(3, [1, 1], [1, 4, 0]), DONE),
            (LIVE, [0, 4, 20, 21]), (closed(3), DONE), (LIVE, DONE),
        )

    def test_what_is_held_but_not_valid_is_not_live(self):
        self.expect((opened(3), DONE), (hold(3, 99), DONE), (LIVE, DONE), (hold(3, 4), DONE), (LIVE, [0, 4]))

    def test_held_before_it_was_valid(self):
        self.expect(
            (opened(3), DONE), (hold(3, 99), DONE), *[(call, DONE) for call in stored({99: (1, [98]), 98: (1, [])})],
            (LIVE, [0, 98, 99]),
        )

    def test_no_matter_how_far_the_collection_is(self):
        self.expect(
            (root(0, 5), DONE), (collect(0), DONE), (LIVE, [0, 4, 5]), (work(3), DONE), (unroot(0), DONE),
            (LIVE, DONE), (work(1000), [0, 1, 2, 3, 6]), (LIVE, DONE), (VALID, [0, 4, 5]),
        )


class WhyTest(AnswersCase):
    before = stored(THINGS)

    def test_none_at_all(self):
        self.expect(*[(why(place), [0, 0]) for place in THINGS])

    def test_several_roots_set_to_one_place(self):
        self.expect(
            (root(9, 5), DONE), (root(2, 5), DONE), (root(31, 5), DONE), (why(5), [0, 3, 2, 9, 31]),
            (why(4), [0, 3, 2, 9, 31]), (why(1), [0, 0]), (unroot(9), DONE), (why(4), [0, 2, 2, 31]),
        )

    def test_roots_that_reach_it_in_order(self):
        self.expect(
            (root(10, 1), DONE), (root(9, 6), DONE), (root(1, 4), DONE), (root(0, 3), DONE),
            (why(4), [0, 3, 0, 1, 10]), (why(2), [0, 2, 0, 10]), (why(3), [0, 2, 0, 10]), (why(1), [0, 1, 10]),
            (why(6), [0, 1, 9]), (why(5), [0, 0]),
        )

    def test_sessions_that_hold_in_order(self):
        self.expect(
            (opened(6), DONE), (opened(0), DONE), (opened(3), DONE), (hold(6, 1), DONE), (hold(6, 4), DONE),
            (hold(0, 2), DONE), (hold(3, 6), DONE),
            (why(4), [0, 0, 0, 6]), (why(2), [0, 0, 0, 6]), (why(1), [0, 0, 6]), (why(6), [0, 0, 3]),
            (closed(6), DONE), (why(1), [0, 0]),
        )

    def test_a_session_by_its_ins_alone(self):
        self.expect(
            (opened(5), DONE), (begin(5, [20], [3]), DONE), (why(4), [0, 0, 5]), (why(2), [0, 0, 5]),
            (why(1), [0, 0]), (abort(5), DONE), (why(4), [0, 0]),
        )

    def test_a_session_is_told_once(self):
        self.expect(
            (opened(5), DONE), (hold(5, 1), DONE), (hold(5, 5), DONE), (begin(5, [20], [3, 5]), DONE),
            (why(4), [0, 0, 5]),
        )

    def test_roots_and_sessions_both(self):
        self.expect(
            (root(7, 1), DONE), (root(3, 5), DONE), (opened(4), DONE), (hold(4, 3), DONE), (opened(1), DONE),
            (begin(1, [20], [5]), DONE), (why(4), [0, 2, 3, 7, 1, 4]), (why(5), [0, 1, 3, 1]),
        )

    def test_sessions_that_hold_what_is_not_valid(self):
        self.expect(
            (opened(4), DONE), (hold(4, 99), DONE), (why(4), [0, 0]), (opened(2), DONE), (hold(2, 99), DONE),
            (hold(2, 4), DONE), (why(4), [0, 0, 2]),
        )

    def test_all_roots_and_sessions(self):
        roots = [(root(r, 1), DONE) for r in range(31, -1, -1)]
        sessions = [(opened(k), DONE) for k in range(7, -1, -1)] + [(hold(k, 2), DONE) for k in range(8)]
        self.expect(*roots, *sessions, (why(4), [0, 32] + list(range(32)) + list(range(8))))

    def test_along_a_chain_of_all_places(self):
        places = list(range(127, -1, -1))
        self.expect((root(0, 127), DONE), (why(0), [0, 1, 0]), (LIVE, [0] + list(range(128))),
                    before=stored(chained(places)))


class WhyRefusalTest(StoreCase):
    def setUp(self):
        super().setUp()
        self.done(*stored(THINGS), root(0, 1))

    def test_range(self):
        for p in (-1, 128, -FAR, FAR):
            self.refused(RANGE, why(p))

    def test_absent(self):
        self.done(opened(0), hold(0, 99), begin(0, [0, 127]))
        for p in (0, 99, 127):
            self.refused(ABSENT, why(p))

    def test_absent_where_it_was_taken_away(self):
        self.done(collect(0))
        self.told(work(1000), 0, 5, 6)
        self.refused(ABSENT, why(6))

    def test_telling_changes_nothing(self):
        self.done(opened(0), hold(0, 5), begin(0, [20], [6]), collect(0), work(2))
        before = seen(self.state)
        self.told(VALID, 0, 1, 2, 3, 4, 5, 6)
        self.told(LIVE, 0, 1, 2, 3, 4, 5, 6)
        self.told(why(4), 0, 1, 0, 0)
        self.told(COUNTS, 0, 6, 210, 1, 2, 3, 0)
        self.assertEqual(seen(self.state), before)


class RootOfNothingTest(StoreCase):
    """A root that is set to a place which isn't valid. No list of calls leads there, as what a root is set to is
    marked and stays; so the root is set behind the calls' back."""

    def setUp(self):
        super().setUp()
        self.done(*stored(THINGS), root(3, 5), opened(0))
        self.state.roots[8] = 50

    def test_it_is_no_reason(self):
        self.told(why(4), 0, 1, 3)
        self.refused(ABSENT, why(50))
        self.done(root(9, 1))
        self.told(why(4), 0, 2, 3, 9)

    def test_it_anchors_nothing(self):
        self.told(LIVE, 0, 4, 5)
        self.done(collect(0))
        self.told(COUNTS, 0, 6, 210, 1, 0, 1, 0)
        self.told(work(1000), 0, 1, 2, 3, 6)

    def test_it_anchors_the_place_that_is_entered_again(self):
        self.done(*stored({50: (1, [51]), 51: (1, [])}))
        self.told(LIVE, 0, 4, 5, 50, 51)
        self.told(why(51), 0, 1, 8)
        self.done(collect(0))
        self.told(work(1000), 0, 1, 2, 3, 6)
        self.told(VALID, 0, 4, 5, 50, 51)

    def test_it_anchors_the_place_that_is_entered_again_while_marking(self):
        self.done(collect(0), *stored({50: (1, [51]), 51: (1, [])}))
        self.told(COUNTS, 0, 8, 212, 1, 0, 3, 0)
        self.told(work(1000), 0, 1, 2, 3, 6)
        self.told(LIVE, 0, 4, 5, 50, 51)

    def test_it_anchors_the_place_that_is_entered_again_while_sweeping(self):
        self.done(collect(0), work(3), *stored({50: (1, [51]), 51: (1, [])}))
        self.told(COUNTS, 0, 8, 212, 2, 4, 0, 0)
        self.told(work(1000), 0, 1, 2, 3, 6)
        self.told(LIVE, 0, 4, 5, 50, 51)

    def test_it_may_be_cleared_and_set_anew(self):
        self.done(unroot(8), *stored({50: (1, [])}))
        self.told(why(50), 0, 0)
        self.done(root(8, 50))
        self.told(why(50), 0, 1, 8)
