"""Promise 10: work while sweeping. Which knot goes when, and where the collection ends."""

from tests.helper import COUNTS, VALID, AnswersCase, chained, collect, root, stored, work

DONE = [0]


class SweepCase(AnswersCase):
    def swept(self, things, *gone, roots=(), n=0):
        """Each knot of gone goes in a unit of its own; then the collection is at its end."""
        before = stored(things) + [root(r, p) for r, p in enumerate(roots)] + [collect(n)]
        marked = self.marks(things, roots)
        before += [work(1)] * (len(marked) + 1)
        left = dict(things)
        won = 0
        pairs = []
        for knot in gone:
            won += sum(left.pop(place)[0] for place in knot)
            load = sum(size for size, refs in left.values())
            pairs += [(work(1), [0] + knot), (COUNTS, [0, len(left), load, 2, len(marked), 0, won])]
        load = sum(size for size, refs in left.values())
        pairs += [(work(1), DONE), (COUNTS, [0, len(left), load, 0, 0, 0, won]), (VALID, [0] + sorted(left))]
        self.expect(*pairs, before=before)
        whole = [place for knot in gone for place in knot]
        self.expect((work(1000), [0] + whole), before=stored(things) + [root(r, p) for r, p in enumerate(roots)]
                    + [collect(n)])

    def marks(self, things, roots):
        marked = set()
        waiting = list(roots)
        while waiting:
            place = waiting.pop()
            if place not in marked:
                marked.add(place)
                waiting += things[place][1]
        return marked


class KnotTest(SweepCase):
    def test_one_place(self):
        self.swept({5: (3, [])}, [5])

    def test_one_place_that_mentions_itself(self):
        self.swept({5: (3, [5])}, [5])

    def test_places_at_both_ends(self):
        self.swept({0: (9999, []), 127: (0, [])}, [0], [127])

    def test_several_places_go_together_in_order_of_size(self):
        self.swept({64: (1, [3]), 3: (2, [100]), 100: (4, [8]), 8: (8, [64])}, [3, 8, 64, 100])

    def test_knots_that_know_nothing_of_each_other_go_smallest_first(self):
        self.swept({9: (1, []), 2: (1, [4]), 4: (1, [2]), 3: (1, [30]), 30: (1, [3])}, [2, 4], [3, 30], [9])

    def test_two_rings_with_a_place_in_common_are_one_knot(self):
        self.swept({1: (1, [2]), 2: (1, [1, 3]), 3: (1, [2])}, [1, 2, 3])

    def test_all_places_in_one_knot(self):
        things = {place: (1, [(place + 1) % 128]) for place in range(128)}
        self.swept(things, list(range(128)))


class OrderTest(SweepCase):
    def test_a_chain_goes_from_what_is_not_mentioned(self):
        self.swept(chained([1, 2, 3]), [1], [2], [3])
        self.swept(chained([3, 2, 1]), [3], [2], [1])
        self.swept(chained([2, 1, 3]), [2], [1], [3])

    def test_a_chain_of_all_places(self):
        places = list(range(127, -1, -1))
        self.swept(chained(places), *[[place] for place in places])

    def test_a_chain_of_knots(self):
        things = {1: (1, [6]), 6: (1, [1]), 2: (1, [5, 1]), 5: (1, [2]), 3: (1, [4, 5]), 4: (1, [3])}
        self.swept(things, [3, 4], [2, 5], [1, 6])

    def test_a_fork_from_one(self):
        self.swept({9: (1, [3, 1]), 3: (1, []), 1: (1, [])}, [9], [1], [3])

    def test_a_fork_into_one(self):
        self.swept({1: (1, []), 5: (1, [1]), 8: (1, [1])}, [5], [8], [1])

    def test_what_becomes_free_goes_ahead_of_larger_ones(self):
        self.swept({5: (1, [2]), 2: (1, []), 7: (1, [1]), 1: (1, [])}, [5], [2], [7], [1])

    def test_a_fork_of_knots_that_meet_again(self):
        things = {
            20: (1, [21, 10]), 21: (1, [20, 15]), 10: (1, [11, 1]), 11: (1, [10]), 15: (1, [16]), 16: (1, [15, 2]),
            1: (1, [2]), 2: (1, [1]),
        }
        self.swept(things, [20, 21], [10, 11], [15, 16], [1, 2])

    def test_the_smallest_of_a_knot_counts_and_it_may_be_mentioned_anywhere(self):
        # 4 mentions 9, which is of one knot with 1: 1 is smaller, but not free.
        self.swept({1: (1, [9]), 9: (1, [1]), 4: (1, [9])}, [4], [1, 9])

    def test_mentioned_twice_it_waits_for_both(self):
        self.swept({1: (1, []), 2: (1, [1]), 3: (1, [1]), 4: (1, [3])}, [2], [4], [3], [1])

    def test_what_the_knot_mentions_does_not_hold_it_back(self):
        self.swept({1: (1, [2, 3]), 2: (1, [1, 3]), 3: (1, [])}, [1, 2], [3])


class BlackTest(SweepCase):
    def test_what_a_root_reaches_stays(self):
        self.swept({1: (1, [2]), 2: (1, [3]), 3: (1, [2]), 4: (1, [])}, [4], roots=[1])

    def test_knots_that_mention_black_places_go(self):
        self.swept({1: (1, [5]), 5: (1, []), 3: (1, [1, 4]), 4: (1, [3, 5])}, [3, 4], roots=[1])

    def test_a_black_place_s_knot_and_another_s(self):
        # The knot 2 3 is mentioned from the black 1, the knot 6 7 from the knot 8 9 alone.
        things = {
            1: (1, [2]), 2: (1, [3]), 3: (1, [2]), 8: (1, [9, 6, 2]), 9: (1, [8]), 6: (1, [7]), 7: (1, [6, 3]),
        }
        self.swept(things, [8, 9], [6, 7], roots=[1])

    def test_every_valid_place_is_black(self):
        self.swept({1: (1, [2]), 2: (2, []), 3: (4, [])}, roots=[1, 3])

    def test_nothing_is_valid_at_all(self):
        self.expect(
            (collect(0), DONE), (work(1), DONE), (COUNTS, [0, 0, 0, 2, 0, 0, 0]),
            (work(1), DONE), (COUNTS, [0, 0, 0, 0, 0, 0, 0]),
        )
        self.expect((collect(5), DONE), (work(1000), DONE), (COUNTS, [0, 0, 0, 0, 0, 0, 0]))


class NumberToBeWonTest(SweepCase):
    things = {1: (3, []), 2: (3, []), 3: (4, [4]), 4: (5, [3]), 5: (1, [])}

    def test_reached_exactly(self):
        self.swept(self.things, [1], n=3)
        self.swept(self.things, [1], [2], n=6)
        self.swept(self.things, [1], [2], [3, 4], n=15)

    def test_passed(self):
        self.swept(self.things, [1], n=1)
        self.swept(self.things, [1], [2], n=4)
        self.swept(self.things, [1], [2], [3, 4], n=7)

    def test_not_reached(self):
        self.swept(self.things, [1], [2], [3, 4], [5], n=17)
        self.swept(self.things, [1], [2], [3, 4], [5], n=10 ** 18)

    def test_reached_with_the_last(self):
        self.swept(self.things, [1], [2], [3, 4], [5], n=16)

    def test_0_for_all(self):
        self.swept(self.things, [1], [2], [3, 4], [5])

    def test_places_without_size_win_nothing(self):
        self.swept({1: (0, []), 2: (0, []), 3: (1, []), 4: (0, [])}, [1], [2], [3], n=1)

    def test_what_another_collection_won_does_not_count(self):
        self.expect(
            (collect(3), DONE), (work(1000), [0, 1]), (COUNTS, [0, 4, 13, 0, 0, 0, 3]),
            (collect(3), DONE), (work(1000), [0, 2]), (COUNTS, [0, 3, 10, 0, 0, 0, 3]),
            (collect(0), DONE), (work(1000), [0, 3, 4, 5]), (COUNTS, [0, 0, 0, 0, 0, 0, 10]),
            before=stored(self.things),
        )


class EnteredAgainTest(SweepCase):
    def test_places_may_be_tied_otherwise_the_next_time(self):
        first = stored({1: (1, [2]), 2: (1, [1]), 3: (1, [2])})
        second = stored({1: (1, []), 2: (1, [3, 1]), 3: (1, [2])})
        self.expect(
            (collect(0), DONE), (work(1000), [0, 3, 1, 2]), *[(call, DONE) for call in second],
            (collect(0), DONE), (work(1000), [0, 2, 3, 1]), (VALID, DONE), before=first,
        )

    def test_the_mention_of_one_that_went_is_gone_with_it(self):
        again = stored({7: (1, [])})
        self.expect(
            (collect(1), DONE), (work(1000), [0, 7]), (collect(1), DONE), (work(1000), [0, 1]),
            *[(call, DONE) for call in again], (collect(0), DONE), (work(1000), [0, 2, 7]),
            before=stored({7: (1, [1, 2]), 1: (1, [2]), 2: (1, [])}),
        )
