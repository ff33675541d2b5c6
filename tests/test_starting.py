"""boot, halt, ups, log and pass."""

from tests.desk_case import GREATEST, LEAST, DeskCase

FIRST = [0, -1, 0, 3, 10, 0]
# Caretaker 0 has 1 and 2, caretaker 1 has worker 3, caretaker 2 has workers 4 and 5:
# the order of the tree isn't that of the numbers.
TREE = [
    (FIRST, [0, 0]),
    ([0, 0, 0, 3, 10, 0], [0, 1]),
    ([0, 0, 0, 3, 10, 0], [0, 2]),
    ([1, 1, 0], [0, 3]),
    ([1, 2, 0], [0, 4]),
    ([1, 2, 0], [0, 5]),
]
CALLS = [call for call, answer in TREE]
ABSENT = (LEAST, -6, -1, 6, 20, GREATEST)


class Boot(DeskCase):
    def test_charges_start_behind_their_caretaker_in_order(self):
        self.check_line(TREE + [
            ([2, 0], [0, 6, 0, 0, 1, 0, 3, 0, 2, 0, 4, 0, 5, 0]),
            ([7], [0, 6, 0, 1, 2, 3, 4, 5]),
        ])

    def test_one_below(self):
        self.check_line(TREE + [
            ([2, 0], [0, 6, 0, 0, 1, 0, 3, 0, 2, 0, 4, 0, 5, 0]),
            ([4, 2], [0, 3, 5, 1, 4, 1, 2, 1]),
            ([4, 3], [0, 1, 3, 1]),
            ([2, 3], [0, 1, 3, 0]),
            ([2, 2], [0, 3, 2, 0, 4, 0, 5, 0]),
            ([7], [0, 6, 0, 1, 2, 3, 4, 5]),
        ])

    def test_starting_ends_being_stopped_by_hand_all_the_way_down(self):
        self.check_line(TREE + [
            ([2, 0], [0, 6, 0, 0, 1, 0, 3, 0, 2, 0, 4, 0, 5, 0]),
            ([4, 4], [0, 1, 4, 1]),
            ([4, 2], [0, 2, 5, 1, 2, 1]),
            ([5, 4], [0, 2, 0, 0, 0, 0, 0, 0, 1, 0, 0]),
            ([5, 5], [0, 2, 0, 0, 0, 0, 0, 0, 0, 0, 0]),
            ([5, 2], [0, 0, 1, 0, 3, 10, 0, 0, 1, 2, 4, 5, 0]),
            ([2, 2], [0, 3, 2, 0, 4, 0, 5, 0]),
            ([5, 4], [0, 2, 0, 0, 0, 0, 0, 1, 0, 0, 0]),
            ([5, 2], [0, 0, 1, 0, 3, 10, 0, 1, 0, 2, 4, 5, 0]),
        ])

    def test_started_anew_a_caretaker_has_started_no_charge_again(self):
        self.check_line([
            ([0, -1, 0, 3, 10, 0], [0, 0]),
            ([1, 0, 0], [0, 1]),
            ([2, 0], [0, 2, 0, 0, 1, 0]),
            ([3, 1, 1], [0, 2, 1, 3, 1, 0]),
            ([4, 0], [0, 2, 1, 1, 0, 1]),
            ([5, 0], [0, 0, 1, 0, 3, 10, 0, 0, 1, 1, 1, 1, 0]),
            ([2, 0], [0, 2, 0, 0, 1, 0]),
            ([5, 0], [0, 0, 1, 0, 3, 10, 0, 1, 0, 1, 1, 0]),
        ])

    def test_refusals(self):
        for number in ABSENT:
            self.check_refused(CALLS, [2, number], -2)
            self.check_refused(CALLS + [[2, 0]], [2, number], -2)
        self.check_refused([], [2, 0], -2)
        for number in range(6):
            self.check_refused(CALLS + [[2, 0]], [2, number], -4)
        for number in range(1, 6):
            self.check_refused(CALLS, [2, number], -5)
        self.check_refused(CALLS + [[2, 0], [4, 2]], [2, 4], -5)


class Halt(DeskCase):
    def test_charges_stop_ahead_of_their_caretaker_in_the_opposite_order(self):
        self.check_line(TREE + [
            ([2, 0], [0, 6, 0, 0, 1, 0, 3, 0, 2, 0, 4, 0, 5, 0]),
            ([4, 0], [0, 6, 5, 1, 4, 1, 2, 1, 3, 1, 1, 1, 0, 1]),
            ([7], [0, 0]),
        ])

    def test_only_the_node_itself_is_stopped_by_hand(self):
        self.check_line(TREE + [
            ([2, 0], [0, 6, 0, 0, 1, 0, 3, 0, 2, 0, 4, 0, 5, 0]),
            ([4, 1], [0, 2, 3, 1, 1, 1]),
            ([5, 1], [0, 0, 1, 0, 3, 10, 0, 0, 1, 1, 3, 0]),
            ([5, 3], [0, 1, 0, 0, 0, 0, 0, 0, 0, 0, 0]),
            ([5, 0], [0, 0, 1, 0, 3, 10, 0, 1, 0, 2, 1, 2, 0]),
            ([7], [0, 4, 0, 2, 4, 5]),
        ])

    def test_what_is_down_is_not_stopped_again(self):
        self.check_line(TREE + [
            ([2, 0], [0, 6, 0, 0, 1, 0, 3, 0, 2, 0, 4, 0, 5, 0]),
            ([4, 4], [0, 1, 4, 1]),
            ([4, 1], [0, 2, 3, 1, 1, 1]),
            ([4, 0], [0, 3, 5, 1, 2, 1, 0, 1]),
        ])

    def test_a_halted_node_is_not_started_again(self):
        self.check_line([
            (FIRST, [0, 0]),
            ([1, 0, 0], [0, 1]),
            ([2, 0], [0, 2, 0, 0, 1, 0]),
            ([4, 1], [0, 1, 1, 1]),
            ([7], [0, 1, 0]),
            ([5, 0], [0, 0, 1, 0, 3, 10, 0, 1, 0, 1, 1, 0]),
        ])

    def test_refusals(self):
        for number in ABSENT:
            self.check_refused(CALLS + [[2, 0]], [4, number], -2)
        self.check_refused([], [4, 0], -2)
        for number in range(6):
            self.check_refused(CALLS, [4, number], -4)
        self.check_refused(CALLS + [[2, 0], [4, 1]], [4, 1], -4)
        self.check_refused(CALLS + [[2, 0], [4, 1]], [4, 3], -4)


class Ups(DeskCase):
    def test_rising(self):
        self.check_line(TREE + [
            ([7], [0, 0]),
            ([2, 0], [0, 6, 0, 0, 1, 0, 3, 0, 2, 0, 4, 0, 5, 0]),
            ([4, 1], [0, 2, 3, 1, 1, 1]),
            ([2, 1], [0, 2, 1, 0, 3, 0]),
            ([4, 4], [0, 1, 4, 1]),
            ([7], [0, 5, 0, 1, 2, 3, 5]),
        ])


class Log(DeskCase):
    def test_minute_node_and_kind_of_each_event(self):
        self.check_line([
            ([0, -1, 0, 3, 10, 0], [0, 0]),
            ([1, 0, 1], [0, 1]),
            ([6, 0], [0, 0, 0]),
            ([8, 4], [0, 4]),
            ([2, 0], [0, 2, 0, 0, 1, 0]),
            ([8, 1], [0, 5]),
            ([3, 1, 1], [0, 2, 1, 3, 1, 0]),
            ([3, 1, 0], [0, 1, 1, 2]),
            ([8, 1000], [0, 1005]),
            ([4, 0], [0, 1, 0, 1]),
            ([6, 0], [0, 6, 6, 4, 0, 0, 4, 1, 0, 5, 1, 3, 5, 1, 0, 5, 1, 2, 1005, 0, 1]),
            ([6, 4], [0, 6, 2, 5, 1, 2, 1005, 0, 1]),
            ([6, 5], [0, 6, 1, 1005, 0, 1]),
            ([6, 6], [0, 6, 0]),
            ([6, 7], [0, 6, 0]),
            ([6, 1000000], [0, 6, 0]),
        ])

    def test_a_hundred_events_at_most(self):
        rounds = [[2, 0], [4, 0]] * 51
        told = self.answers_to([FIRST] + rounds + [[6, 0], [6, 1], [6, 2], [6, 3], [6, 101], [6, 102]])
        events = []
        for number in range(51):
            events.extend([0, 0, 0, 0, 0, 1])
        self.assertEqual(told[-6], [0, 102, 100] + events[:300])
        self.assertEqual(told[-5], [0, 102, 100] + events[3:303])
        self.assertEqual(told[-4], [0, 102, 100] + events[6:])
        self.assertEqual(told[-3], [0, 102, 99] + events[9:])
        self.assertEqual(told[-2], [0, 102, 1, 0, 0, 1])
        self.assertEqual(told[-1], [0, 102, 0])

    def test_range(self):
        self.check_range([], [6, 0], 1, 0, 1000000)
        self.check_range(CALLS + [[2, 0]], [6, 0], 1, 0, 1000000)


class Pass(DeskCase):
    def test_now_goes_on(self):
        self.check_line([
            ([8, 1], [0, 1]),
            ([8, 1000], [0, 1001]),
            ([8, 999], [0, 2000]),
        ])

    def test_range(self):
        self.check_range([], [8, 1], 1, 1, 1000)

    def test_ten_thousand_at_most(self):
        late = [[8, 1000] for number in range(9)] + [[8, 500]]
        self.check_refused(late, [8, 501], -7)
        self.check_refused(late, [8, 1000], -7)
        self.check_line([(call, [0, 1000 * (place + 1)]) for place, call in enumerate(late[:9])] + [
            ([8, 500], [0, 9500]),
            ([8, 501], [-7]),
            ([8, 499], [0, 9999]),
            ([8, 2], [-7]),
            ([8, 1], [0, 10000]),
            ([8, 1], [-7]),
        ])

    def test_the_first_refusal_in_the_order(self):
        latest = [[8, 1000] for number in range(10)]
        for number in (LEAST, -1, 0, 1001, GREATEST):
            self.check_refused(latest, [8, number], -1)
        self.check_refused(latest, [8, 1], -7)
