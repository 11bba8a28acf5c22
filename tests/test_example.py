"""The document's example, call by call."""

from tests.helper import (
    COUNTS, LIVE, VALID, AnswersCase, begin, closed, collect, finish, hold, opened, root, unroot, work,
)

DONE = [0]


class ExampleTest(AnswersCase):
    first = [
        (opened(0), DONE), (begin(0, [5, 3]), DONE), (finish(0, [10, 20], [1, 5, 1, 3]), DONE),
        (begin(0, [9], [3]), DONE), (finish(0, [7], [1, 3]), DONE), (root(4, 9), DONE), (closed(0), DONE),
        (opened(1), DONE), (begin(1, [2]), DONE), (finish(1, [1], [0]), DONE), (closed(1), DONE),
    ]
    second = [(collect(0), DONE), (work(1), DONE), (unroot(4), DONE), (work(1000), [0, 2])]
    third = [(opened(2), DONE), (collect(0), DONE), (work(1), DONE), (hold(2, 3), DONE), (work(1000), [0, 9])]

    def test_as_it_stands(self):
        self.expect(*self.first, *self.second, (COUNTS, [0, 3, 37, 0, 0, 0, 1]), *self.third)

    def test_valid_and_live_behind_the_building(self):
        self.expect(*self.first, (VALID, [0, 2, 3, 5, 9]), (LIVE, [0, 3, 5, 9]))

    def test_the_first_unit_makes_9_black_and_3_grey(self):
        self.expect(
            *self.first, (collect(0), DONE), (COUNTS, [0, 4, 38, 1, 0, 1, 0]),
            (work(1), DONE), (COUNTS, [0, 4, 38, 1, 1, 1, 0]),
        )

    def test_nothing_is_grey_so_the_phase_is_2(self):
        self.expect(
            *self.first, *self.second, *self.third[:3], (COUNTS, [0, 3, 37, 2, 0, 0, 0]),
            (hold(2, 3), DONE), (COUNTS, [0, 3, 37, 2, 2, 0, 0]),
            (work(1000), [0, 9]), (COUNTS, [0, 2, 30, 0, 0, 0, 7]), (VALID, [0, 3, 5]), (LIVE, [0, 3, 5]),
        )
