"""What hold, begin, finish and root shade, seen through the answers alone."""

from tests.helper import (
    CANCEL, COUNTS, LIVE, VALID, AnswersCase, abort, begin, closed, collect, finish, hold, opened, root, stored,
    unroot, work,
)

DONE = [0]
# 10 mentions 11, 11 mentions 12, 13 mentions 11; 14 stands alone. The load is 5.
THINGS = {10: (1, [11]), 11: (1, [12]), 12: (1, []), 13: (1, [11]), 14: (1, [])}
ALL = [0, 10, 11, 12, 13, 14]


def counted(phase, black, grey, valid=5, won=0):
    return (COUNTS, [0, valid, valid, phase, black, grey, won])


class WhileIdleTest(AnswersCase):
    before = stored(THINGS) + [opened(0)]

    def test_nothing_is_shaded(self):
        self.expect(
            (hold(0, 10), DONE), (root(0, 13), DONE), (begin(0, [20], [14]), DONE), counted(0, 0, 0),
            (finish(0, [1], [1, 14]), DONE), counted(0, 0, 0, valid=6),
        )

    def test_what_was_let_go_before_collect_is_taken(self):
        self.expect(
            (hold(0, 10), DONE), (root(0, 13), DONE), (begin(0, [20], [14]), DONE), (closed(0), DONE),
            (unroot(0), DONE), (collect(0), DONE), (work(1000), [0, 10, 13, 11, 12, 14]),
        )

    def test_behind_a_collection_s_end(self):
        self.expect(
            (hold(0, 10), DONE), (collect(0), DONE), (work(1000), [0, 13, 14]), (root(0, 10), DONE),
            (hold(0, 12), DONE), counted(0, 0, 0, valid=3, won=2),
        )


class WhileMarkingTest(AnswersCase):
    before = stored(THINGS) + [opened(0), collect(0)]

    def test_hold(self):
        self.expect(
            (hold(0, 10), DONE), counted(1, 0, 1), (closed(0), DONE), (LIVE, DONE), counted(1, 0, 1),
            (work(1000), [0, 13, 14]), (VALID, [0, 10, 11, 12]),
        )

    def test_begin(self):
        self.expect(
            (begin(0, [20], [14, 11, 14]), DONE), counted(1, 0, 2), (abort(0), DONE), (LIVE, DONE),
            (work(1000), [0, 10, 13]), (VALID, [0, 11, 12, 14]),
        )

    def test_finish(self):
        self.expect(
            (begin(0, [20, 21], [12]), DONE), counted(1, 0, 1), (work(1), DONE), counted(1, 1, 0),
            (finish(0, [1, 1], [1, 12, 0]), DONE), counted(1, 1, 2, valid=7), (closed(0), DONE), (LIVE, DONE),
            (work(1000), [0, 10, 13, 11, 14]), (VALID, [0, 12, 20, 21]),
        )

    def test_root(self):
        self.expect(
            (root(0, 13), DONE), counted(1, 0, 1), (unroot(0), DONE), (LIVE, DONE),
            (work(1000), [0, 10, 14]), (VALID, [0, 11, 12, 13]),
        )

    def test_what_is_grey_or_black_already(self):
        self.expect(
            (root(0, 10), DONE), (work(1), DONE), counted(1, 1, 1), (hold(0, 10), DONE), (root(1, 11), DONE),
            (begin(0, [20], [10, 11]), DONE), counted(1, 1, 1), (work(2), DONE), counted(1, 3, 0),
        )

    def test_hold_of_a_place_that_is_not_valid(self):
        self.expect((hold(0, 50), DONE), counted(1, 0, 0), (work(1), DONE), counted(2, 0, 0))

    def test_refused_calls_shade_nothing(self):
        self.expect(
            (hold(1, 10), [-2]), (hold(8, 10), [-1]), (root(32, 10), [-1]), (root(0, 50), [-2]),
            (begin(0, [10], [10]), [-4]), (begin(0, [20], [10, 50]), [-2]), counted(1, 0, 0),
        )


class WhileSweepingTest(AnswersCase):
    before = stored(THINGS) + [opened(0), collect(0), work(1)]

    def test_hold(self):
        self.expect(
            (hold(0, 10), DONE), counted(2, 3, 0), (closed(0), DONE), (LIVE, DONE), counted(2, 3, 0),
            (work(1000), [0, 13, 14]), (VALID, [0, 10, 11, 12]),
        )

    def test_begin(self):
        self.expect(
            (begin(0, [20], [14, 11]), DONE), counted(2, 3, 0), (abort(0), DONE), (LIVE, DONE),
            (work(1000), [0, 10, 13]), (VALID, [0, 11, 12, 14]),
        )

    def test_finish(self):
        self.expect(
            (begin(0, [20, 21], [11]), DONE), counted(2, 2, 0), (finish(0, [1, 1], [1, 12, 1, 20]), DONE),
            counted(2, 4, 0, valid=7), (closed(0), DONE), (LIVE, DONE),
            (work(1000), [0, 10, 13, 14]), (VALID, [0, 11, 12, 20, 21]),
        )

    def test_finish_without_ins(self):
        self.expect(
            (begin(0, [20]), DONE), (finish(0, [1], [0]), DONE), counted(2, 1, 0, valid=6), (closed(0), DONE),
            (work(1000), [0, 10, 13, 11, 12, 14]), (VALID, [0, 20]), (collect(0), DONE), (work(1000), [0, 20]),
        )

    def test_root(self):
        self.expect(
            (root(0, 13), DONE), counted(2, 3, 0), (unroot(0), DONE), (LIVE, DONE),
            (work(1000), [0, 10, 14]), (VALID, [0, 11, 12, 13]),
        )

    def test_between_two_knots(self):
        self.expect(
            (work(1), [0, 10]), (hold(0, 11), DONE), counted(2, 2, 0, valid=4, won=1), (work(1), [0, 13]),
            (work(1), [0, 14]), (work(1), DONE), counted(0, 0, 0, valid=2, won=3),
        )

    def test_the_last_that_is_shaded_ends_it(self):
        self.expect(
            (work(4), [0, 10, 13, 11, 12]), (root(0, 14), DONE), counted(2, 1, 0, valid=1, won=4),
            (work(1), DONE), counted(0, 0, 0, valid=1, won=4),
        )

    def test_hold_of_a_place_that_is_not_valid(self):
        self.expect((hold(0, 50), DONE), counted(2, 0, 0), (work(1), [0, 10]), (hold(0, 10), DONE),
                    counted(2, 0, 0, valid=4, won=1))

    def test_a_knot_is_black_as_a_whole(self):
        things = {1: (1, [2]), 2: (1, [1]), 3: (1, [1])}
        self.expect(
            (root(0, 2), DONE), counted(2, 2, 0, valid=3), (work(1000), [0, 3]),
            before=stored(things) + [collect(0), work(1)],
        )

    def test_refused_calls_shade_nothing(self):
        self.expect(
            (hold(1, 10), [-2]), (hold(0, 128), [-1]), (root(-1, 10), [-1]), (begin(0, [20, 14], [10]), [-4]),
            (begin(0, [], [10]), [-1]), counted(2, 0, 0),
        )

    def test_behind_cancel_nothing_is_shaded(self):
        self.expect((CANCEL, DONE), (hold(0, 10), DONE), (root(0, 13), DONE), counted(0, 0, 0), (VALID, ALL))


class HeldBeforeItIsValidTest(AnswersCase):
    """Session 1 holds 30 before session 0 enters it with 31, which it mentions, and lets both go."""

    before = stored(THINGS) + [opened(1), hold(1, 30), opened(0), begin(0, [30, 31])]
    entered = [(finish(0, [1, 1], [1, 31, 0]), DONE), (closed(0), DONE)]

    def test_entered_while_idle(self):
        self.expect(
            *self.entered, (LIVE, [0, 30, 31]), (collect(0), DONE), counted(1, 0, 1, valid=7),
            (work(1000), [0, 10, 13, 11, 12, 14]), (VALID, [0, 30, 31]),
            (closed(1), DONE), (collect(0), DONE), (work(1000), [0, 30, 31]),
        )

    def test_entered_while_marking(self):
        self.expect(
            (collect(0), DONE), counted(1, 0, 0), *self.entered, counted(1, 0, 2, valid=7),
            (work(1000), [0, 10, 13, 11, 12, 14]), (LIVE, [0, 30, 31]),
        )

    def test_entered_while_sweeping(self):
        self.expect(
            (collect(0), DONE), (work(1), DONE), *self.entered, counted(2, 2, 0, valid=7),
            (work(1000), [0, 10, 13, 11, 12, 14]), (LIVE, [0, 30, 31]),
        )


class EnteredAgainTest(AnswersCase):
    """10 goes; session 0 holds it all the same, and it is entered again by session 1."""

    before = stored(THINGS) + [opened(0), opened(1)]
    again = [(begin(1, [10]), DONE), (finish(1, [1], [0]), DONE), (closed(1), DONE)]

    def test_while_sweeping(self):
        self.expect(
            (collect(0), DONE), (work(2), [0, 10]), (hold(0, 10), DONE), (LIVE, DONE), *self.again,
            (LIVE, [0, 10]), (work(1000), [0, 13, 11, 12, 14]), (VALID, [0, 10]),
        )

    def test_while_idle(self):
        self.expect(
            (collect(1), DONE), (work(1000), [0, 10]), (hold(0, 10), DONE), *self.again, (LIVE, [0, 10]),
            (collect(0), DONE), (work(1000), [0, 13, 11, 12, 14]), (VALID, [0, 10]),
        )

    def test_its_mark_is_new(self):
        self.expect(
            (collect(0), DONE), (work(2), [0, 10]), counted(2, 0, 0, valid=4, won=1), *self.again,
            counted(2, 1, 0, valid=5, won=1), (work(1000), [0, 13, 11, 12, 14]), (VALID, [0, 10]), (LIVE, DONE),
        )


class NeverTakenTest(AnswersCase):
    """What a root is set to stays, whenever the root was set; so no root comes to be set to what was taken."""

    before = stored(THINGS) + [collect(0)]
    order = [10, 13, 11, 12, 14]
    closures = {10: [10, 11, 12], 11: [11, 12], 12: [12], 13: [11, 12, 13], 14: [14]}

    def test_a_root_set_behind_each_unit(self):
        # The first unit is the turn to sweeping, the sixth takes the last place, the seventh is the end.
        for units in range(8):
            gone = self.order[:max(0, units - 1)]
            for place in self.order[len(gone):]:
                kept = self.closures[place]
                taken = [other for other in self.order if other not in gone + kept]
                self.expect(
                    (work(units), [0] + gone), (root(5, place), DONE), (LIVE, [0] + kept),
                    (work(1000), [0] + taken), (VALID, [0] + kept), (LIVE, [0] + kept),
                )

    def test_a_root_can_not_be_set_to_what_was_taken(self):
        for units in range(2, 8):
            gone = self.order[:units - 1]
            self.expect((work(units), [0] + gone), *[(root(5, place), [-2]) for place in gone])
