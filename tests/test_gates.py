"""gate, bucket, crowd, next and most."""

import itertools

from tests.desk_case import GREATEST, LEAST, RICH, DeskCase

FALLING = ([1, 0], [1000000, 0], [5, 5, 4], [0, 3, 2, 4], [10, 11, 12, 13, 14, 15, 16, 17, 18, 9])


def with_row(call, row):
    return call + [len(row)] + row


def crowd_by_count(span, minutes):
    return max([len([each for each in minutes if start <= each < start + span]) for start in minutes], default=0)


def most_of_all(times, span, minutes):
    """The most tries let through, by trying every way, those that let through more first."""
    for size in range(len(minutes), 0, -1):
        for chosen in itertools.combinations(minutes, size):
            if crowd_by_count(span, chosen) <= times:
                return size
    return 0


class MinutesCase(DeskCase):
    def check_minutes(self, call, most):
        """The call, told without its row, takes minutes alone, so many at most."""
        self.check_row_lengths(call, most, 5)
        self.check_row_lengths(call, most, 1000000)
        self.check_row_numbers(call, 0, 1000000)
        for row in FALLING:
            self.check_refused(RICH, with_row(call, row), -1)
            self.check_changes_nothing(RICH, with_row(call, sorted(row)))
        rising = list(range(most))
        self.check_changes_nothing(RICH, with_row(call, rising))
        self.check_refused(RICH, with_row(call, rising[:-2] + [most - 1, most - 2]), -1)
        self.check_refused(RICH, with_row(call, [1, 0] + rising[2:]), -1)
        self.check_refused(RICH, with_row(call, rising + [most]), -1)


class Gate(MinutesCase):
    def check_through(self, times, span, row, through):
        self.check_line([(with_row([23, times, span], row), [0, len(through)] + through)])

    def test_so_many_at_most_in_any_stretch(self):
        self.check_through(2, 10, [0, 0, 0, 5, 9, 10, 10, 10, 19, 20], [0, 0, 10, 10, 20])
        self.check_through(3, 5, [1, 2, 3, 4, 5, 6, 7, 8, 9, 10, 11], [1, 2, 3, 6, 7, 8, 11])

    def test_minutes_just_so_far_apart_and_one_short_of_it(self):
        self.check_through(1, 10, [5, 15, 25], [5, 15, 25])
        self.check_through(1, 10, [5, 14, 15, 24, 25], [5, 15, 25])
        self.check_through(1, 1000, [0, 999, 1000], [0, 1000])
        self.check_through(1, 1, [3, 3, 4, 5, 5], [3, 4, 5])

    def test_only_those_let_through_count(self):
        self.check_through(1, 10, [0, 9, 10, 18, 19, 20], [0, 10, 20])

    def test_several_tries_at_the_same_minute(self):
        self.check_through(3, 10, [7] * 5, [7] * 3)
        self.check_through(20, 1, [7] * 60, [7] * 20)
        self.check_through(2, 1, [7, 7, 7, 8, 8, 8], [7, 7, 8, 8])

    def test_none_at_all(self):
        self.check_through(0, 1, [], [])
        self.check_through(0, 1, [1, 2, 3], [])
        self.check_through(0, 1000, [0] * 60, [])

    def test_no_try_and_one(self):
        self.check_through(1, 1, [], [])
        self.check_through(1, 1, [0], [0])
        self.check_through(1, 1000, [1000000], [1000000])

    def test_sixty_minutes(self):
        self.check_through(20, 1000, list(range(60)), list(range(20)))
        self.check_through(1, 1, list(range(60)), list(range(60)))
        self.check_through(1, 7, list(range(60)), list(range(0, 60, 7)))
        self.check_through(20, 1000, list(range(0, 3000, 50)), list(range(0, 3000, 50)))
        self.check_through(1, 1000, [999941 + place for place in range(60)], [999941])

    def test_ranges(self):
        row = [0, 1, 1, 2, 500]
        self.check_range(RICH, with_row([23, 2, 10], row), 1, 0, 20)
        self.check_range(RICH, with_row([23, 2, 10], row), 2, 1, 1000)
        self.check_range(RICH, with_row([23, 2, 10], []), 1, 0, 20)
        self.check_range(RICH, with_row([23, 2, 10], []), 2, 1, 1000)
        self.check_minutes([23, 2, 10], 60)


class Bucket(MinutesCase):
    def check_through(self, room, every, row, through):
        self.check_line([(with_row([24, room, every], row), [0, len(through)] + through)])

    def test_a_bucket(self):
        self.check_through(2, 3, [10, 10, 10, 11, 12, 13, 16, 16, 30, 30, 30], [10, 10, 13, 16, 30, 30])

    def test_it_is_full_at_the_first_try_whenever_that_is(self):
        self.check_through(3, 10, [0, 0, 0, 0], [0, 0, 0])
        self.check_through(3, 10, [5, 5, 5, 5], [5, 5, 5])
        self.check_through(3, 10, [1000000] * 4, [1000000] * 3)

    def test_it_never_holds_more_than_at_first(self):
        self.check_through(1, 10, [0, 15, 20], [0, 15])
        self.check_through(1, 10, [0, 15, 24, 25], [0, 15, 25])
        self.check_through(2, 10, [0, 0, 1000, 1000, 1000, 1009, 1010], [0, 0, 1000, 1000, 1010])

    def test_parts_are_not_lost(self):
        self.check_through(2, 10, [0, 0, 15, 20, 29, 30], [0, 0, 15, 20, 30])
        self.check_through(1, 3, [0, 2, 3, 5, 6], [0, 3, 6])

    def test_a_try_that_is_not_let_through_takes_nothing(self):
        self.check_through(1, 10, [0, 1, 2, 9, 9, 10], [0, 10])

    def test_several_tries_at_the_same_minute(self):
        self.check_through(20, 1, [7] * 60, [7] * 20)
        self.check_through(2, 1, [3, 3, 3, 4, 4, 6, 6, 6], [3, 3, 4, 6, 6])

    def test_minutes_just_so_far_apart_and_one_short_of_it(self):
        self.check_through(1, 10, [5, 15, 25], [5, 15, 25])
        self.check_through(1, 10, [5, 14, 24], [5, 24])
        self.check_through(1, 1000, [0, 999, 1000], [0, 1000])
        self.check_through(1, 1, [3, 3, 4, 5, 5], [3, 4, 5])

    def test_no_try_and_one(self):
        self.check_through(1, 1, [], [])
        self.check_through(20, 1000, [0], [0])

    def test_sixty_minutes(self):
        self.check_through(20, 1000, list(range(60)), list(range(20)))
        self.check_through(1, 1, list(range(60)), list(range(60)))
        self.check_through(1, 7, list(range(60)), list(range(0, 60, 7)))
        self.check_through(3, 20, list(range(60)), [0, 1, 2, 20, 40])

    def test_ranges(self):
        row = [0, 1, 1, 2, 500]
        self.check_range(RICH, with_row([24, 2, 10], row), 1, 1, 20)
        self.check_range(RICH, with_row([24, 2, 10], row), 2, 1, 1000)
        self.check_range(RICH, with_row([24, 2, 10], []), 1, 1, 20)
        self.check_range(RICH, with_row([24, 2, 10], []), 2, 1, 1000)
        self.check_minutes([24, 2, 10], 60)


class Crowd(MinutesCase):
    def check_crowd(self, span, row, crowd):
        self.check_line([(with_row([25, span], row), [0, crowd])])

    def test_the_greatest_number_within_a_stretch(self):
        self.check_crowd(10, [0, 5, 9, 10, 14], 4)
        self.check_crowd(10, [0, 1, 2, 20, 21, 40], 3)
        self.check_crowd(10, [0, 20, 21, 40, 41, 42], 3)
        self.check_crowd(10, [0, 20, 21, 22, 40], 3)

    def test_no_minute_and_one(self):
        for span in (1, 1000):
            self.check_crowd(span, [], 0)
            self.check_crowd(span, [0], 1)
            self.check_crowd(span, [1000000], 1)

    def test_minutes_just_so_far_apart_and_one_short_of_it(self):
        self.check_crowd(10, [0, 10], 1)
        self.check_crowd(10, [0, 9], 2)
        self.check_crowd(1000, [5, 1005], 1)
        self.check_crowd(1000, [5, 1004], 2)
        self.check_crowd(1, [5, 6], 1)

    def test_the_same_minute(self):
        self.check_crowd(1, [3, 3, 3, 4, 4], 3)
        self.check_crowd(2, [3, 3, 3, 4, 4], 5)

    def test_sixty_minutes(self):
        self.check_crowd(1, [1000000] * 60, 60)
        self.check_crowd(1, list(range(60)), 1)
        self.check_crowd(59, list(range(60)), 59)
        self.check_crowd(60, list(range(60)), 60)

    def test_ranges(self):
        self.check_range(RICH, with_row([25, 10], [0, 1, 1, 2, 500]), 1, 1, 1000)
        self.check_range(RICH, with_row([25, 10], []), 1, 1, 1000)
        self.check_minutes([25, 10], 60)


class Next(MinutesCase):
    def check_first(self, times, span, least, row, first):
        self.check_line([(with_row([26, times, span, least], row), [0, first])])

    def test_the_first_minute(self):
        self.check_first(2, 10, 12, [0, 5, 12], 15)
        self.check_first(2, 10, 15, [0, 5, 12], 15)
        self.check_first(2, 10, 14, [0, 5, 12], 15)
        self.check_first(2, 10, 16, [0, 5, 12], 16)
        self.check_first(1, 10, 12, [0, 5, 12], 22)
        self.check_first(3, 10, 12, [0, 5, 12], 12)
        self.check_first(4, 10, 12, [0, 5, 12], 12)

    def test_the_same_minute(self):
        self.check_first(2, 10, 7, [7], 7)
        self.check_first(2, 10, 7, [7, 7], 17)
        self.check_first(3, 1, 7, [7, 7, 7], 8)

    def test_just_so_far_apart_and_one_short_of_it(self):
        self.check_first(1, 10, 14, [5], 15)
        self.check_first(1, 10, 15, [5], 15)
        self.check_first(1, 10, 16, [5], 16)

    def test_more_of_the_list_than_a_gate_would_let_through(self):
        self.check_first(1, 5, 4, [3, 3, 3], 8)
        self.check_first(2, 5, 4, [3, 3, 4], 8)
        self.check_first(2, 5, 9, [3, 6, 9], 11)
        self.check_first(2, 100, 9, [3, 6, 9], 106)

    def test_none_at_all(self):
        self.check_first(0, 1, 0, [], -1)
        self.check_first(0, 1000, 1000000, [0, 1000000], -1)
        self.check_refused(RICH, [26, 0, 10, 5, 1, 6], -1)
        self.check_refused(RICH, [26, 0, 0, 5, 0], -1)
        self.check_refused(RICH, [26, 0, 10, -1, 0], -1)

    def test_no_minute(self):
        self.check_first(1, 1, 0, [], 0)
        self.check_first(20, 1000, 1000000, [], 1000000)

    def test_the_greatest_minutes(self):
        self.check_first(1, 1000, 1000000, [1000000], 1001000)
        self.check_first(20, 1000, 1000000, [1000000] * 60, 1001000)
        self.check_first(20, 1000, 1000000, [1000000] * 19, 1000000)

    def test_sixty_minutes(self):
        self.check_first(20, 1000, 59, list(range(60)), 1040)
        self.check_first(20, 10, 59, list(range(60)), 59)
        self.check_first(20, 20, 59, list(range(60)), 60)
        self.check_first(1, 10, 59, list(range(60)), 69)

    def test_a_minute_above_the_least_one(self):
        self.check_first(2, 10, 5, [4, 5], 14)
        for row in ([6], [4, 6], [5, 5, 6], [6, 6], [0, 1000000]):
            self.check_refused(RICH, with_row([26, 2, 10, 5], row), -1)
        self.check_refused(RICH, [26, 2, 10, 0, 1, 1], -1)
        self.check_refused(RICH, [26, 2, 10, 999999, 1, 1000000], -1)
        # One in the middle stands above, and the row falls behind it.
        self.check_refused(RICH, [26, 2, 10, 5, 3, 4, 6, 5], -1)

    def test_ranges(self):
        call = with_row([26, 2, 10, 500], [0, 1, 1, 2, 500])
        self.check_range(RICH, call, 1, 0, 20)
        self.check_range(RICH, call, 2, 1, 1000)
        self.check_range(RICH, call, 3, 500, 1000000)
        self.check_range(RICH, [26, 2, 10, 500, 0], 1, 0, 20)
        self.check_range(RICH, [26, 2, 10, 500, 0], 2, 1, 1000)
        self.check_range(RICH, [26, 2, 10, 500, 0], 3, 0, 1000000)
        self.check_range(RICH, [26, 2, 10, 500, 1, 0], 3, 0, 1000000)
        self.check_minutes([26, 2, 10, 1000000], 60)


class Most(MinutesCase):
    def check_most(self, times, span, row, most):
        self.assertEqual(most_of_all(times, span, row), most)
        self.check_line([(with_row([27, times, span], row), [0, most])])

    def test_the_most(self):
        self.check_most(1, 10, [0, 5, 9, 10, 14, 20], 3)
        self.check_most(2, 10, [0, 5, 9, 10, 14, 20], 4)
        self.check_most(3, 10, [0, 5, 9, 10, 14, 20], 5)
        self.check_most(4, 10, [0, 5, 9, 10, 14, 20], 6)

    def test_no_minute_and_one(self):
        self.check_most(0, 1, [], 0)
        self.check_most(1, 1, [], 0)
        self.check_most(1, 1, [0], 1)
        self.check_most(20, 1000, [1000000], 1)

    def test_none_at_all(self):
        self.check_most(0, 1, [4], 0)
        self.check_most(0, 1000, [0, 1, 2, 3, 4, 5, 6, 7, 8, 9], 0)

    def test_the_same_minute(self):
        self.check_most(3, 1, [5] * 10, 3)
        self.check_most(10, 1, [5] * 10, 10)
        self.check_most(20, 1000, [5] * 10, 10)
        self.check_most(2, 1, [5, 5, 5, 6, 6, 6, 7], 5)

    def test_just_so_far_apart_and_one_short_of_it(self):
        self.check_most(1, 10, [0, 10], 2)
        self.check_most(1, 10, [0, 9], 1)
        self.check_most(1, 1000, [0, 999, 1000, 1999], 2)

    def test_ten_minutes(self):
        self.check_most(1, 3, [0, 1, 2, 3, 4, 5, 6, 7, 8, 9], 4)
        self.check_most(2, 3, [0, 1, 2, 3, 4, 5, 6, 7, 8, 9], 7)
        self.check_most(2, 5, [0, 0, 0, 4, 4, 5, 5, 9, 10, 14], 6)
        self.check_most(9, 10, [0, 1, 2, 3, 4, 5, 6, 7, 8, 9], 9)
        self.check_most(10, 10, [0, 1, 2, 3, 4, 5, 6, 7, 8, 9], 10)

    def test_short_rows_against_every_way(self):
        for steps in itertools.product((0, 1, 2, 4), repeat=5):
            row = list(itertools.accumulate(steps))
            for times in (1, 2, 3):
                for span in (1, 3, 5):
                    self.check_most(times, span, row, most_of_all(times, span, row))

    def test_ranges(self):
        row = [0, 1, 1, 2, 500]
        self.check_range(RICH, with_row([27, 2, 10], row), 1, 0, 20)
        self.check_range(RICH, with_row([27, 2, 10], row), 2, 1, 1000)
        self.check_range(RICH, with_row([27, 2, 10], []), 1, 0, 20)
        self.check_range(RICH, with_row([27, 2, 10], []), 2, 1, 1000)
        self.check_minutes([27, 2, 10], 10)
        self.check_refused(RICH, with_row([27, 2, 10], [5] * 60), -1)

    def test_several_out_of_range(self):
        for call in ([23, LEAST, GREATEST], [24, LEAST, GREATEST], [25, LEAST], [26, LEAST, GREATEST, LEAST]):
            self.check_refused(RICH, call + [2, GREATEST, LEAST], -1)
        self.check_refused(RICH, [27, GREATEST, LEAST, 2, GREATEST, LEAST], -1)
