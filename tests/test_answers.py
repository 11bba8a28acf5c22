"""The interface as a whole, and promise 15: counts."""

import unittest

from stepsweep.store import answers
from tests.helper import (
    CANCEL, COUNTS, FAR, LIVE, VALID, abort, ask, begin, closed, collect, finish, flat, hold, opened, root, room,
    stored, unroot, why, work,
)

EXAMPLE = [
    opened(0), begin(0, [5, 3]), finish(0, [10, 20], [1, 5, 1, 3]),
    begin(0, [9], [3]), finish(0, [7], [1, 3]), root(4, 9), closed(0),
    opened(1), begin(1, [2]), finish(1, [1], [0]), closed(1),
]
COLLECTED = [
    collect(0), work(1), unroot(4), COUNTS, work(1000), COUNTS, opened(2), collect(5), work(1), hold(2, 3), why(5),
    work(1), VALID, LIVE, CANCEL, COUNTS, room(40), COUNTS,
]


class CountsTest(unittest.TestCase):
    def test_a_new_store(self):
        self.assertEqual(answers(COUNTS), [7, 0, 0, 0, 0, 0, 0, 0])

    def test_valid_places_and_load_after_the_example(self):
        told = ask(*EXAMPLE, COUNTS)
        self.assertEqual(told, [[0]] * len(EXAMPLE) + [[0, 4, 38, 0, 0, 0, 0]])

    def test_nothing_is_counted_before_finish(self):
        told = ask(opened(0), begin(0, [1, 2]), COUNTS, finish(0, [5, 0], [0, 0]), COUNTS)
        self.assertEqual(told[2], [0, 0, 0, 0, 0, 0, 0])
        self.assertEqual(told[4], [0, 2, 5, 0, 0, 0, 0])

    def test_letting_go_takes_nothing_away(self):
        told = ask(*EXAMPLE, unroot(4), COUNTS)
        self.assertEqual(told[-1], [0, 4, 38, 0, 0, 0, 0])

    def test_all_places_valid(self):
        told = ask(opened(0), begin(0, range(128)), finish(0, [1] * 128, [0] * 128), COUNTS)
        self.assertEqual(told[-1], [0, 128, 128, 0, 0, 0, 0])


class ReadOnly(list):
    """A list that can't be changed, not for a while either."""

    def refuse(self, *arguments, **named):
        raise AssertionError("the list that was handed in was changed")

    append = extend = insert = pop = remove = clear = reverse = sort = refuse
    __setitem__ = __delitem__ = __iadd__ = __imul__ = refuse


class AnswersTest(unittest.TestCase):
    def test_each_answer_has_its_length_ahead(self):
        told = answers(flat([opened(0), opened(0), COUNTS, closed(1), hold(0, 3)]))
        self.assertEqual(told, [1, 0, 1, -3, 7, 0, 0, 0, 0, 0, 0, 0, 1, -2, 1, 0])

    def test_every_refusal_by_its_number(self):
        told = ask(
            opened(8), closed(0), opened(0), opened(0),
            begin(0, range(11)), opened(1), begin(1, [0]), finish(0, [], []),
            finish(0, [1] * 11, [1, 50] + [0] * 10), finish(0, [9999] * 11, [0] * 11),
            finish(0, [1] * 11, [0] * 11), begin(1, [0]),
        )
        self.assertEqual(told, [[n] for n in (-1, -2, 0, -3, 0, 0, -5, -8, -6, -7, 0, -4)])

    def test_every_call_may_come_first(self):
        firsts = [
            (opened(0), 0), (closed(0), -2), (hold(0, 0), -2), (begin(0, [1], [2]), -2),
            (finish(0, [1], [0]), -2), (abort(0), -2), (root(0, 0), -2), (unroot(0), 0), (collect(0), 0),
            (work(0), 0), (work(1000), 0), (CANCEL, 0), (room(0), 0), (VALID, 0), (LIVE, 0), (why(0), -2),
        ]
        for call, number in firsts:
            self.assertEqual(answers(call), [1, number], call)
        self.assertEqual(answers(COUNTS), [7, 0, 0, 0, 0, 0, 0, 0])

    def test_every_call_refuses_far_numbers(self):
        for far in (FAR, -FAR):
            calls = [
                opened(far), closed(far), hold(far, far), begin(far, [far], [far]),
                finish(far, [far], [far]), abort(far), root(far, far), unroot(far), work(far), room(far), why(far),
            ]
            self.assertEqual(ask(*calls), [[-1]] * 11)
        self.assertEqual(ask(collect(-FAR), collect(FAR)), [[-1], [0]])

    def test_rows_end_where_their_lengths_say(self):
        told = ask(opened(0), begin(0, [1, 0], []), finish(0, [15, 15], [1, 1, 0]), COUNTS, closed(0), COUNTS)
        self.assertEqual(told, [[0], [0], [0], [0, 2, 30, 0, 0, 0, 0], [0], [0, 2, 30, 0, 0, 0, 0]])

    def test_longest_rows(self):
        refs = flat([[64] + [place] * 64 for place in range(30)]) + [49] + [3] * 49
        told = ask(opened(0), begin(0, list(range(31)) * 6), finish(0, [0] * 31, refs), finish(0, [0] * 200, [0] * 2000))
        self.assertEqual(told, [[0], [0], [0], [-2]])

    def test_four_hundred_calls(self):
        told = ask(*[hold(0, 5)] * 399, opened(0))
        self.assertEqual(told, [[-2]] * 399 + [[0]])

    def test_refused_calls_among_others_change_no_answer(self):
        refused = [
            opened(-1), opened(8), closed(7), hold(9, 1), hold(6, 1), begin(6, [50]), begin(0, []),
            finish(6, [], []), abort(6), root(32, 0), root(0, 99), unroot(32), collect(-1), work(-1), work(1001),
            room(-1), room(100001), why(128), why(99),
        ]
        calls = EXAMPLE + COLLECTED
        # In two halves, as a list has at most 400 calls.
        for part in (EXAMPLE[4:], COLLECTED):
            mixed = []
            for call in calls:
                mixed += (refused if call in part else []) + [call]
            told = ask(*mixed)
            self.assertEqual([answer for call, answer in zip(mixed, told) if call not in refused], ask(*calls))
            self.assertTrue(all(len(answer) == 1 and answer[0] < 0
                                for call, answer in zip(mixed, told) if call in refused))

    def test_no_length_but_that_of_why(self):
        told = answers(flat(stored({1: (1, [2]), 2: (1, []), 3: (1, [])}) + [
            root(4, 1), opened(6), hold(6, 2), why(2), VALID, LIVE, collect(0), work(1000),
        ]))
        self.assertEqual(told, [1, 0] * 7 + [4, 0, 1, 4, 6] + [4, 0, 1, 2, 3] + [3, 0, 1, 2] + [1, 0] + [2, 0, 3])

    def test_what_is_handed_in_is_not_changed(self):
        calls = flat(EXAMPLE + [begin(8, [3, 3, 1], [2, 2])] + COLLECTED)
        before = list(calls)
        answers(calls)
        self.assertEqual(calls, before)

    def test_what_is_handed_in_is_not_written_to(self):
        calls = ReadOnly(flat(EXAMPLE + COLLECTED))
        self.assertEqual(answers(calls), answers(list(calls)))

    def test_nothing_is_kept_from_one_time_to_the_next(self):
        calls = flat(EXAMPLE + COLLECTED + [opened(5), begin(5, [100]), room(39), collect(3), work(2), COUNTS])
        first = answers(calls)
        kept = list(first)
        self.assertEqual(answers(calls), kept)
        self.assertEqual(first, kept)
        self.assertEqual(answers(COUNTS), [7, 0, 0, 0, 0, 0, 0, 0])

    def test_gives_back_whole_numbers_in_a_list(self):
        told = answers(flat(EXAMPLE + [opened(9)] + COLLECTED))
        self.assertIs(type(told), list)
        self.assertEqual({type(number) for number in told}, {int})
