"""The interface: how calls and answers stand in their lists."""

import contextlib
import io
import unittest

from caretakers.desk import answers
from tests.desk_case import DeskCase, joined

SHORT = [
    [0, -1, 0, 3, 10, 0],
    [1, 0, 0],
    [2, 0],
    [3, 1, 1],
    [4, 1],
    [5, 0],
    [6, 0],
    [7],
    [8, 5],
    [9, 2, 0, 1, 1, 1],
    [10, 3],
    [11, 3, -4],
    [12, 3],
    [13, 0],
    [14, 4],
    [15],
    [16],
    [17, 3],
    [18],
    [19, 2, 5, 1, 2, 3, 1, 2],
    [20, 3, 6, 7, 6],
    [21, 2, 5, 1, 2, 3, 1, 2],
    [22, 2, 3, 6, 7, 6],
    [23, 1, 10, 3, 0, 9, 10],
    [24, 1, 10, 3, 0, 9, 10],
    [25, 10, 3, 0, 9, 10],
    [26, 1, 10, 12, 3, 0, 9, 10],
    [27, 1, 10, 3, 0, 9, 10],
]


def round_of_calls(number):
    """Each of the calls once, with its answer, in the round of this number (from 0) behind SETUP."""
    now = 1 + 10 * number
    then = now + 10
    ask = 1 + number
    key = 10 + number
    before = [50, 5, 1, 1] if number == 0 else [key - 1, 1 - number, now, 1]
    return [
        ([0, 0, 0, 1, 1, 0], [-4]),
        ([1, 0, 0], [-4]),
        ([4, 1], [0, 1, 1, 1]),
        ([2, 1], [0, 1, 1, 0]),
        ([3, 1, 1], [0, 2, 1, 3, 1, 0]),
        ([5, 0], [0, 0, 1, 0, 20, 1, 0, 1, 0, 1, 1, 1, now]),
        ([6, 2 + 4 * number], [0, 6 + 4 * number, 4, now, 1, 1, now, 1, 0, now, 1, 3, now, 1, 0]),
        ([7], [0, 2, 0, 1]),
        ([19, 2, 5, 1, 2, 3, 1, 2], [0, 5, 5, 4]),
        ([8, 10], [0, then]),
        ([10, key], [0, ask, 4, then]),
        ([16], [0, 1, key, then, 1, 1, ask]),
        ([9, 2, 15, 1, 3, 100], [0]),
        ([20, 4, key, 7, 7, key], [0, -1, -1, 0, 1]),
        ([11, key, -number], [0, 1, ask]),
        ([12, key], [-2]),
        ([13, ask], [-2]),
        ([15], [0, 2, key, -number, then, 1] + before),
        ([14, 50], [0]),
        ([17, key], [0, 0, 0]),
        ([18], [0, then, 2, ask + 1, 0, ask + 1, 2, 15, 1, 3, 100]),
        ([21, 2, 5, 1, 2, 3, 1, 2], [0, 4]),
        ([22, 2, 3, key, 1, key], [0, 2, key, 1]),
        ([23, 1, 10, 3, now, then - 1, then], [0, 2, now, then]),
        ([24, 1, 10, 3, now, then - 1, then], [0, 2, now, then]),
        ([25, 10, 3, now, then - 1, then], [0, 2]),
        ([26, 1, 10, then, 2, now, then], [0, then + 10]),
        ([27, 1, 10, 3, now, then - 1, then], [0, 2]),
    ]


SETUP = [
    ([0, -1, 0, 20, 1, 0], [0, 0]),
    ([1, 0, 0], [0, 1]),
    ([2, 0], [0, 2, 0, 0, 1, 0]),
    ([9, 2, 15, 1, 3, 100], [0]),
    ([8, 1], [0, 1]),
    ([10, 50], [0, 0, 4, 1]),
    ([11, 50, 5], [0, 1, 0]),
    ([15], [0, 1, 50, 5, 1, 1]),
]


class Interface(DeskCase):
    def test_no_calls(self):
        self.assertEqual(answers([]), [])

    def test_each_call_with_its_place_and_its_answer_with_its_length(self):
        self.assertEqual(
            answers(joined(SHORT)),
            [2, 0, 0,
             2, 0, 1,
             6, 0, 2, 0, 0, 1, 0,
             6, 0, 2, 1, 3, 1, 0,
             4, 0, 1, 1, 1,
             13, 0, 0, 1, 0, 3, 10, 0, 1, 0, 1, 1, 1, 0,
             18, 0, 5, 5, 0, 0, 0, 0, 1, 0, 0, 1, 3, 0, 1, 0, 0, 1, 1,
             3, 0, 1, 0,
             2, 0, 5,
             1, 0,
             4, 0, 0, 4, 5,
             3, 0, 1, 0,
             1, -2,
             1, -2,
             1, 0,
             6, 0, 1, 3, -4, 5, 1,
             2, 0, 0,
             3, 0, 0, 0,
             11, 0, 5, 2, 1, 0, 1, 2, 0, 1, 1, 1,
             4, 0, 5, 5, 4,
             4, 0, -1, -1, 1,
             2, 0, 4,
             4, 0, 2, 6, 7,
             4, 0, 2, 0, 10,
             4, 0, 2, 0, 10,
             2, 0, 2,
             2, 0, 20,
             2, 0, 2])

    def test_every_call_may_stand_first(self):
        firsts = [
            ([0, -1, 2, 20, 1000, 2], [0, 0]),
            ([1, -1, 0], [-6]),
            ([2, 0], [-2]),
            ([3, 0, 1], [-2]),
            ([4, 0], [-2]),
            ([5, 0], [-2]),
            ([6, 0], [0, 0, 0]),
            ([7], [0, 0]),
            ([8, 1], [0, 1]),
            ([9, 1, 0, 0, 1, 1], [0]),
            ([10, 0], [0, 0, 4, 0]),
            ([11, 0, 0], [-2]),
            ([12, 0], [-2]),
            ([13, 0], [-2]),
            ([14, 0], [0]),
            ([15], [0, 0]),
            ([16], [0, 0]),
            ([17, 0], [0, 0, 0]),
            ([18], [0, 0, 0, 0, 0, 0, 4, 0, 0, 1, 1]),
            ([19, 1, 0], [0, 0, 0, 0]),
            ([20, 0], [0]),
            ([21, 1, 0], [0, 0]),
            ([22, 1, 0], [0, 0]),
            ([23, 0, 1, 0], [0, 0]),
            ([24, 1, 1, 0], [0, 0]),
            ([25, 1, 0], [0, 0]),
            ([26, 0, 1, 0, 0], [0, -1]),
            ([27, 0, 1, 0], [0, 0]),
        ]
        self.assertEqual([call[0] for call, answer in firsts], list(range(28)))
        for call, answer in firsts:
            self.check_line([(call, answer)])

    def test_four_hundred_calls(self):
        line = [([0, -1, 0, 20, 1, 0], [0, 0]), ([1, 0, 0], [0, 1]), ([2, 0], [0, 2, 0, 0, 1, 0])]
        for minute in range(1, 199):
            line.append(([8, 1], [0, minute]))
            line.append(([3, 1, 0], [0, 2, 1, 2, 1, 0]))
        line.append(([7], [0, 2, 0, 1]))
        self.assertEqual(len(line), 400)
        self.check_line(line)

    def test_four_hundred_calls_of_all_sorts(self):
        line = list(SETUP)
        for number in range(14):
            line += round_of_calls(number)
        self.assertEqual(len(line), 400)
        self.assertEqual(sorted({call[0] for call, answer in line}), list(range(28)))
        self.check_line(line)

    def test_four_hundred_calls_with_rows(self):
        line = []
        for number in range(80):
            row = list(range(number % 11))
            line.append(([22, 20, len(row)] + row, [0, len(row)] + row[::-1]))
            line.append(([20, len(row)] + row, [0] + [-1] * len(row)))
            line.append(([25, 1000, len(row)] + row, [0, len(row)]))
            line.append(([27, 1, 5, len(row)] + row, [0, (len(row) + 4) // 5]))
            line.append(([26, 0, 1, 10, len(row)] + row, [0, -1]))
        self.assertEqual(len(line), 400)
        self.check_line(line)

    def test_the_longest_list(self):
        refused = [19, 3, 200] + [0] * 200
        taken = [23, 1, 1, 60] + list(range(60))
        line = [(refused, [-1])] * 78 + [(taken, [0, 60] + list(range(60)))] * 2 + [([7], [0, 0])] * 38
        self.assertEqual(sum(len(call) for call, answer in line), 16000)
        self.check_line(line)

    def test_a_row_beyond_its_range_is_passed_over_whole(self):
        # The numbers of the row are no calls themselves, whatever they look like.
        for length in (61, 100, 199, 200):
            for call in ([19, 3], [20], [21, 3], [22, 3], [23, 1, 1], [24, 1, 1], [25, 1], [26, 1, 1, 1], [27, 1, 1]):
                self.check_line([([8, 5], [0, 5]), (call + [length] + [8] * length, [-1]), ([8, 5], [0, 10])])

    def test_the_list_handed_in_is_unchanged(self):
        handed = joined(SHORT)
        kept = list(handed)
        answers(handed)
        self.assertEqual(handed, kept)

    def test_a_tuple_as_good_as_a_list_shows_that_nothing_is_changed_for_a_while(self):
        self.assertEqual(answers(tuple(joined(SHORT))), answers(joined(SHORT)))

    def test_nothing_is_kept_from_one_time_to_the_next(self):
        first = answers(joined(SHORT))
        first.append(7)
        self.assertEqual(answers(joined(SHORT)), first[:-1])
        self.assertEqual(answers([7]), [2, 0, 0])
        self.assertEqual(answers([8, 1]), [2, 0, 1])
        self.assertEqual(answers([10, 3]), [4, 0, 0, 4, 0])

    def test_the_answer_is_a_list_of_whole_numbers_alone(self):
        told = answers(joined(SHORT))
        self.assertIs(type(told), list)
        for number in told:
            self.assertIs(type(number), int)

    def test_nothing_is_printed(self):
        out = io.StringIO()
        err = io.StringIO()
        with contextlib.redirect_stdout(out), contextlib.redirect_stderr(err):
            answers(joined(SHORT))
        self.assertEqual((out.getvalue(), err.getvalue()), ("", ""))


if __name__ == "__main__":
    unittest.main()
