"""ways, depths, best and late."""

import itertools

from caretakers.letting_go import asked_again_last
from tests.desk_case import GREATEST, LEAST, RICH, DeskCase

# The row with which a greater room has more misses in turn.
KNOWN = [1, 2, 3, 4, 1, 2, 5, 1, 2, 3, 4, 5]


def with_row(call, row):
    return call + [len(row)] + row


def scattered(seed, length, keys):
    """A row of keys below so many, the same for each seed."""
    row = []
    for place in range(length):
        seed = (seed * 1103515245 + 12345) % 2147483648
        row.append(seed // 65536 % keys)
    return row


def fewest_of_all(room, row, held=frozenset()):
    """The fewest misses, by trying every way of letting go."""
    misses = 0
    for place, key in enumerate(row):
        if key in held:
            continue
        misses += 1
        if len(held) == room:
            behind = row[place + 1:]
            return misses + min(fewest_of_all(room, behind, held - {other} | {key}) for other in sorted(held))
        held = held | {key}
    return misses


class Ways(DeskCase):
    def check_misses(self, room, row, misses):
        self.check_line([(with_row([19, room], row), [0] + misses)])

    def test_a_known_row(self):
        self.check_misses(1, KNOWN, [12, 12, 12])
        self.check_misses(2, KNOWN, [12, 12, 9])
        self.check_misses(3, KNOWN, [10, 9, 7])
        self.check_misses(4, KNOWN, [8, 10, 6])
        self.check_misses(5, KNOWN, [5, 5, 5])
        self.check_misses(20, KNOWN, [5, 5, 5])

    def test_no_key_and_one(self):
        for room in (1, 2, 20):
            self.check_misses(room, [], [0, 0, 0])
            self.check_misses(room, [99], [1, 1, 1])

    def test_a_key_asked_for_again_at_once(self):
        self.check_misses(1, [5, 5, 5], [1, 1, 1])
        self.check_misses(2, [1, 1, 2, 2, 3, 3, 1, 1], [4, 4, 3])

    def test_a_room_of_one(self):
        self.check_misses(1, [1, 1, 2, 2, 1], [3, 3, 3])
        self.check_misses(1, [0, 1, 0, 1, 0, 1], [6, 6, 6])

    def test_a_room_that_never_fills(self):
        self.check_misses(20, [0, 99, 50, 0, 99, 50, 7], [4, 4, 4])
        self.check_misses(4, [0, 99, 50, 0, 99, 50, 7, 7, 50], [4, 4, 4])

    def test_a_use_counts_by_last_use_and_not_in_turn(self):
        self.check_misses(2, [1, 2, 1, 3, 1], [3, 4, 3])

    def test_in_turn_counts_from_when_a_key_last_came_in(self):
        self.check_misses(2, [1, 2, 3, 1, 3, 2, 1], [6, 5, 4])

    def test_last_use_counts_from_the_last_of_all_requests(self):
        self.check_misses(2, [1, 2, 2, 1, 3, 1, 2], [4, 5, 4])

    def test_the_best_way_lets_go_what_is_asked_for_again_last(self):
        self.check_misses(2, [1, 2, 3, 2, 1], [4, 4, 4])
        self.check_misses(2, [1, 2, 3, 1, 2], [5, 5, 4])
        self.check_misses(3, [1, 2, 3, 4, 3, 2, 1], [5, 5, 5])
        self.check_misses(3, [1, 2, 3, 4, 1, 2, 3], [7, 7, 5])

    def test_the_best_way_looks_at_the_next_request_for_a_key_and_not_at_its_last(self):
        self.check_misses(2, [1, 2, 3, 1, 1, 2, 1], [5, 5, 4])

    def test_several_keys_that_are_never_asked_for_again(self):
        self.check_misses(3, [1, 2, 3, 4, 5, 6], [6, 6, 6])
        self.check_misses(3, [9, 8, 7, 6, 5, 9], [6, 6, 5])
        self.check_misses(3, [7, 8, 9, 6, 5, 9], [5, 5, 5])
        self.check_misses(2, [9, 8, 7, 9, 6, 9], [5, 5, 4])

    def test_of_equal_ones_the_least_key_goes(self):
        # Which of them goes changes no answer, so this is asked of the function itself.
        self.assertEqual(asked_again_last({8: 4, 7: 9, 3: 9, 5: 9}), 3)
        self.assertEqual(asked_again_last({3: 9, 7: 9, 0: 4}), 3)
        self.assertEqual(asked_again_last({1: 4, 7: 9, 0: 5}), 7)

    def test_sixty_keys(self):
        self.check_misses(3, [0, 1, 2, 3] * 15, [60, 60, 22])
        self.check_misses(4, [0, 1, 2, 3] * 15, [4, 4, 4])
        self.check_misses(20, list(range(20)) * 3, [20, 20, 20])
        self.check_misses(19, list(range(20)) * 3, [60, 60, 22])
        self.check_misses(20, list(range(40, 100)), [60, 60, 60])
        self.check_misses(1, [7] * 60, [1, 1, 1])

    def test_by_last_use_the_depths_tell_the_misses(self):
        for seed in range(20):
            row = scattered(seed, 60, 25)
            depths = self.answers_to([with_row([20], row)])[0][1:]
            for room in range(1, 21):
                misses = len([depth for depth in depths if depth == -1 or depth >= room])
                self.assertEqual(self.answers_to([with_row([19, room], row)])[0][1], misses)

    def test_ranges(self):
        self.check_range(RICH, with_row([19, 3], KNOWN), 1, 1, 20)
        self.check_range(RICH, with_row([19, 3], []), 1, 1, 20)
        self.check_row_lengths([19, 3], 60, 99)
        self.check_row_numbers([19, 3], 0, 99)

    def test_it_changes_nothing(self):
        self.check_changes_nothing([], with_row([19, 3], KNOWN))
        self.check_changes_nothing(RICH, with_row([19, 3], KNOWN))


class Depths(DeskCase):
    def test_depths(self):
        self.check_line([(with_row([20], [1, 2, 3, 1, 1, 2, 2, 3]), [0, -1, -1, -1, 2, 0, 2, 0, 2])])
        self.check_line([(with_row([20], KNOWN), [0, -1, -1, -1, -1, 3, 3, -1, 2, 2, 4, 4, 4])])

    def test_no_key_and_one(self):
        self.check_line([([20, 0], [0]), ([20, 1, 0], [0, -1]), ([20, 1, 99], [0, -1])])

    def test_a_key_asked_for_again_at_once(self):
        self.check_line([(with_row([20], [5, 5, 5, 6, 6, 5]), [0, -1, 0, 0, -1, 0, 1])])

    def test_other_keys_count_once_each(self):
        self.check_line([(with_row([20], [1, 2, 2, 3, 2, 3, 1]), [0, -1, -1, 0, -1, 1, 1, 2])])

    def test_only_those_since_the_key_was_last_asked_for(self):
        self.check_line([(with_row([20], [1, 2, 3, 1, 4, 1]), [0, -1, -1, -1, 2, -1, 1])])

    def test_sixty_keys(self):
        self.check_line([
            (with_row([20], list(range(60))), [0] + [-1] * 60),
            (with_row([20], list(range(70, 100)) * 2), [0] + [-1] * 30 + [29] * 30),
            (with_row([20], [99] * 60), [0, -1] + [0] * 59),
            (with_row([20], list(range(59)) + [0]), [0] + [-1] * 59 + [58]),
        ])

    def test_ranges(self):
        self.check_row_lengths([20], 60, 0)
        self.check_row_numbers([20], 0, 99)

    def test_it_changes_nothing(self):
        self.check_changes_nothing([], with_row([20], KNOWN))
        self.check_changes_nothing(RICH, with_row([20], KNOWN))


class Best(DeskCase):
    def check_fewest(self, room, row, misses):
        self.check_line([(with_row([21, room], row), [0, misses])])

    def test_a_known_row(self):
        for room, misses in ((1, 12), (2, 9), (3, 7), (4, 6)):
            self.check_fewest(room, KNOWN, misses)

    def test_no_key_and_one(self):
        for room in (1, 2, 3, 4):
            self.check_fewest(room, [], 0)
            self.check_fewest(room, [7], 1)

    def test_a_miss_is_always_held(self):
        # Could 2 be passed by without being held, 3 misses were enough.
        self.check_fewest(1, [1, 2, 1, 3], 4)
        self.check_fewest(2, [1, 2, 3, 1, 2], 4)

    def test_fourteen_keys_and_each_room(self):
        rows = [
            (list(range(8)) + list(range(6)), (14, 13, 12, 11)),
            ([0, 1] * 7, (14, 2, 2, 2)),
            ([0, 1, 2, 3, 4] * 2 + [0, 1, 2, 3], (14, 11, 9, 7)),
            ([7, 7, 6, 6, 5, 5, 4, 4, 7, 7, 6, 6, 5, 5], (7, 6, 5, 4)),
            ([3] * 14, (1, 1, 1, 1)),
        ]
        for row, fewest in rows:
            self.assertEqual(len(row), 14)
            for place, misses in enumerate(fewest):
                self.assertEqual(fewest_of_all(place + 1, row), misses)
                self.check_fewest(place + 1, row, misses)

    def test_every_short_row_against_every_way(self):
        for length in range(8):
            for row in itertools.product(range(3), repeat=length):
                for room in (1, 2):
                    self.check_fewest(room, list(row), fewest_of_all(room, row))
        for row in itertools.product(range(4), repeat=6):
            self.check_fewest(3, list(row), fewest_of_all(3, row))

    def test_long_rows_against_every_way(self):
        for seed in range(12):
            for room in (1, 2, 3, 4):
                row = scattered(seed, 14, 5 + seed % 4)
                self.check_fewest(room, row, fewest_of_all(room, row))

    def test_ranges(self):
        row = [0, 7, 3, 0, 7, 3, 5, 5, 0, 1, 2, 3, 4, 5]
        self.check_range(RICH, with_row([21, 3], row), 1, 1, 4)
        self.check_range(RICH, with_row([21, 3], []), 1, 1, 4)
        self.check_row_lengths([21, 3], 14, 7)
        self.check_row_numbers([21, 3], 0, 7)
        self.check_refused(RICH, with_row([21, 3], [7] * 60), -1)

    def test_it_changes_nothing(self):
        self.check_changes_nothing([], with_row([21, 2], KNOWN))
        self.check_changes_nothing(RICH, with_row([21, 2], KNOWN))


class Late(DeskCase):
    def check_held(self, room, row, held):
        self.check_line([(with_row([22, room], row), [0, len(held)] + held)])

    def test_the_one_asked_for_last_first(self):
        self.check_held(3, KNOWN, [5, 4, 3])
        self.check_held(4, KNOWN, [5, 4, 3, 2])
        self.check_held(20, KNOWN, [5, 4, 3, 2, 1])
        self.check_held(2, [1, 2, 1, 3], [3, 1])
        self.check_held(2, [1, 2, 1], [1, 2])

    def test_no_key_and_one(self):
        for room in (1, 20):
            self.check_held(room, [], [])
            self.check_held(room, [0], [0])

    def test_a_key_asked_for_again_at_once(self):
        self.check_held(3, [4, 4, 4], [4])
        self.check_held(3, [1, 2, 3, 3, 2, 2], [2, 3, 1])

    def test_a_room_of_one(self):
        self.check_held(1, [1, 2, 3, 2], [2])

    def test_a_room_that_never_fills(self):
        self.check_held(20, [9, 8, 7, 9], [9, 7, 8])

    def test_a_key_that_went_and_came_again(self):
        self.check_held(2, [1, 2, 3, 1], [1, 3])

    def test_sixty_keys(self):
        self.check_held(20, list(range(60)), list(range(59, 39, -1)))
        self.check_held(20, [0, 1, 2] * 20, [2, 1, 0])
        self.check_held(19, list(range(20)) * 3, list(range(19, 0, -1)))

    def test_ranges(self):
        self.check_range(RICH, with_row([22, 3], KNOWN), 1, 1, 20)
        self.check_range(RICH, with_row([22, 3], []), 1, 1, 20)
        self.check_row_lengths([22, 3], 60, 99)
        self.check_row_numbers([22, 3], 0, 99)

    def test_both_out_of_range(self):
        for call in (19, 21, 22):
            self.check_refused(RICH, [call, LEAST, 1, GREATEST], -1)
            self.check_refused(RICH, [call, 0, 0], -1)

    def test_it_changes_nothing(self):
        self.check_changes_nothing([], with_row([22, 3], KNOWN))
        self.check_changes_nothing(RICH, with_row([22, 3], KNOWN))
