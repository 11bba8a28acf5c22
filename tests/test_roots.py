"""Promises 7 and 8: root, unroot."""

from stepsweep.refusals import ABSENT, RANGE
from tests.helper import FAR, StoreCase, begin, hold, opened, root, unroot

WRONG_ROOTS = (-1, 32, -FAR, FAR)
WRONG_PLACES = (-1, 128, -FAR, FAR)


class RootCase(StoreCase):
    def setUp(self):
        super().setUp()
        self.done(opened(0))
        self.built(0, [0, 5, 127], [], [1, 1, 1], [0, 0, 0])


class RootTest(RootCase):
    def test_no_root_is_set_at_first(self):
        self.assertEqual(self.state.roots, {})

    def test_sets_roots_to_places_at_both_ends(self):
        self.done(root(0, 127), root(31, 0))
        self.assertEqual(self.state.roots, {0: 127, 31: 0})

    def test_two_roots_may_be_set_to_one_place(self):
        self.done(root(3, 5), root(4, 5))
        self.assertEqual(self.state.roots, {3: 5, 4: 5})

    def test_a_set_root_is_set_anew(self):
        self.done(root(3, 5), root(3, 0))
        self.assertEqual(self.state.roots, {3: 0})

    def test_range(self):
        for r in WRONG_ROOTS:
            self.refused(RANGE, root(r, 5))
        for p in WRONG_PLACES:
            self.refused(RANGE, root(3, p))

    def test_absent_where_the_place_is_not_valid(self):
        self.done(root(3, 5))
        self.refused(ABSENT, root(3, 6))
        self.done(hold(0, 6), begin(0, [7]))
        self.refused(ABSENT, root(3, 6))
        self.refused(ABSENT, root(3, 7))

    def test_range_ahead_of_absent(self):
        self.refused(RANGE, root(32, 6))


class UnrootTest(RootCase):
    def test_clears_that_root_alone(self):
        self.done(root(0, 5), root(31, 5), unroot(31))
        self.assertEqual(self.state.roots, {0: 5})
        self.done(unroot(0))
        self.assertEqual(self.state.roots, {})

    def test_a_root_set_to_none_stays_so(self):
        self.done(unroot(0), unroot(31), unroot(31))
        self.assertEqual(self.state.roots, {})

    def test_the_place_stays_valid(self):
        self.done(root(0, 5), unroot(0))
        self.assertTrue(self.state.is_valid(5))

    def test_range(self):
        self.done(root(0, 5), root(31, 5))
        for r in WRONG_ROOTS:
            self.refused(RANGE, unroot(r))
