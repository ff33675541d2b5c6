"""The interface: how calls and answers stand in their lists."""

import contextlib
import io
import unittest

from caretakers.desk import answers
from tests.desk_case import DeskCase, joined

SHORT = [
    [0, -1, 0, 3, 10, 0],
    [1, 0, 0],
    [2, 0],
    [3, 1, 1],
    [4, 1],
    [5, 0],
    [6, 0],
    [7],
    [8, 5],
    [9, 2, 0, 1, 1, 1],
    [10, 3],
    [11, 3, -4],
    [12, 3],
    [13, 0],
]


class Interface(DeskCase):
    def test_no_calls(self):
        self.assertEqual(answers([]), [])

    def test_each_call_with_its_place_and_its_answer_with_its_length(self):
        self.assertEqual(
            answers(joined(SHORT)),
            [2, 0, 0,
             2, 0, 1,
             6, 0, 2, 0, 0, 1, 0,
             6, 0, 2, 1, 3, 1, 0,
             4, 0, 1, 1, 1,
             13, 0, 0, 1, 0, 3, 10, 0, 1, 0, 1, 1, 1, 0,
             18, 0, 5, 5, 0, 0, 0, 0, 1, 0, 0, 1, 3, 0, 1, 0, 0, 1, 1,
             3, 0, 1, 0,
             2, 0, 5,
             1, 0,
             4, 0, 0, 4, 5,
             3, 0, 1, 0,
             1, -2,
             1, -2])

    def test_every_call_may_stand_first(self):
        firsts = [
            ([0, -1, 2, 20, 1000, 2], [0, 0]),
            ([1, -1, 0], [-6]),
            ([2, 0], [-2]),
            ([3, 0, 1], [-2]),
            ([4, 0], [-2]),
            ([5, 0], [-2]),
            ([6, 0], [0, 0, 0]),
            ([7], [0, 0]),
            ([8, 1], [0, 1]),
            ([9, 1, 0, 0, 1, 1], [0]),
            ([10, 0], [0, 0, 4, 0]),
            ([11, 0, 0], [-2]),
            ([12, 0], [-2]),
            ([13, 0], [-2]),
        ]
        for call, answer in firsts:
            self.check_line([(call, answer)])

    def test_four_hundred_calls(self):
        line = [([0, -1, 0, 20, 1, 0], [0, 0]), ([1, 0, 0], [0, 1]), ([2, 0], [0, 2, 0, 0, 1, 0])]
        for minute in range(1, 199):
            line.append(([8, 1], [0, minute]))
            line.append(([3, 1, 0], [0, 2, 1, 2, 1, 0]))
        line.append(([7], [0, 2, 0, 1]))
        self.assertEqual(len(line), 400)
        self.check_line(line)

    def test_the_list_handed_in_is_unchanged(self):
        handed = joined(SHORT)
        kept = list(handed)
        answers(handed)
        self.assertEqual(handed, kept)

    def test_a_tuple_as_good_as_a_list_shows_that_nothing_is_changed_for_a_while(self):
        self.assertEqual(answers(tuple(joined(SHORT))), answers(joined(SHORT)))

    def test_nothing_is_kept_from_one_time_to_the_next(self):
        first = answers(joined(SHORT))
        first.append(7)
        self.assertEqual(answers(joined(SHORT)), first[:-1])
        self.assertEqual(answers([7]), [2, 0, 0])
        self.assertEqual(answers([8, 1]), [2, 0, 1])
        self.assertEqual(answers([10, 3]), [4, 0, 0, 4, 0])

    def test_the_answer_is_a_list_of_whole_numbers_alone(self):
        told = answers(joined(SHORT))
        self.assertIs(type(told), list)
        for number in told:
            self.assertIs(type(number), int)

    def test_nothing_is_printed(self):
        out = io.StringIO()
        err = io.StringIO()
        with contextlib.redirect_stdout(out), contextlib.redirect_stderr(err):
            answers(joined(SHORT))
        self.assertEqual((out.getvalue(), err.getvalue()), ("", ""))


if __name__ == "__main__":
    unittest.main()
