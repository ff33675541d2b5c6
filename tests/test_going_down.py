"""down: the ways, the rules of starting again, and caretakers that fail."""

from tests.desk_case import GREATEST, LEAST, DeskCase


def booted(way, times, span, again=0):
    """Caretaker 0 with workers 1 to 4, all of them up."""
    return [
        ([0, -1, way, times, span, 0], [0, 0]),
        ([1, 0, again], [0, 1]),
        ([1, 0, again], [0, 2]),
        ([1, 0, again], [0, 3]),
        ([1, 0, again], [0, 4]),
        ([2, 0], [0, 5, 0, 0, 1, 0, 2, 0, 3, 0, 4, 0]),
    ]


class OneForOne(DeskCase):
    def test_the_node_alone_is_started(self):
        self.check_line(booted(0, 5, 10) + [
            ([3, 2, 1], [0, 2, 2, 3, 2, 0]),
            ([3, 4, 0], [0, 2, 4, 2, 4, 0]),
            ([7], [0, 5, 0, 1, 2, 3, 4]),
            ([5, 0], [0, 0, 1, 0, 5, 10, 0, 1, 0, 4, 1, 2, 3, 4, 2, 0, 0]),
            ([5, 2], [0, 0, 0, 0, 0, 0, 0, 1, 0, 0, 0]),
        ])


class AllForOne(DeskCase):
    def test_the_others_are_stopped_and_all_are_started(self):
        self.check_line(booted(1, 5, 10) + [
            ([3, 2, 1], [0, 8, 2, 3, 4, 1, 3, 1, 1, 1, 1, 0, 2, 0, 3, 0, 4, 0]),
            ([3, 1, 0], [0, 8, 1, 2, 4, 1, 3, 1, 2, 1, 1, 0, 2, 0, 3, 0, 4, 0]),
            ([3, 4, 1], [0, 8, 4, 3, 3, 1, 2, 1, 1, 1, 1, 0, 2, 0, 3, 0, 4, 0]),
            ([5, 0], [0, 0, 1, 1, 5, 10, 0, 1, 0, 4, 1, 2, 3, 4, 3, 0, 0, 0]),
        ])

    def test_charges_that_are_down_stay_down(self):
        self.check_line(booted(1, 5, 10, 1) + [
            ([4, 1], [0, 1, 1, 1]),
            ([3, 3, 0], [0, 1, 3, 2]),
            ([3, 2, 1], [0, 4, 2, 3, 4, 1, 2, 0, 4, 0]),
            ([7], [0, 3, 0, 2, 4]),
            ([5, 1], [0, 0, 0, 0, 0, 0, 1, 0, 1, 0, 0]),
            ([5, 3], [0, 0, 0, 0, 0, 0, 1, 0, 0, 0, 0]),
        ])


class TheRestForOne(DeskCase):
    def test_those_behind_are_stopped_and_started(self):
        self.check_line(booted(2, 5, 10) + [
            ([3, 2, 1], [0, 6, 2, 3, 4, 1, 3, 1, 2, 0, 3, 0, 4, 0]),
            ([3, 4, 1], [0, 2, 4, 3, 4, 0]),
            ([3, 1, 0], [0, 8, 1, 2, 4, 1, 3, 1, 2, 1, 1, 0, 2, 0, 3, 0, 4, 0]),
        ])

    def test_charges_that_are_down_stay_down(self):
        self.check_line(booted(2, 5, 10) + [
            ([4, 3], [0, 1, 3, 1]),
            ([3, 2, 1], [0, 4, 2, 3, 4, 1, 2, 0, 4, 0]),
            ([4, 1], [0, 1, 1, 1]),
            ([3, 2, 1], [0, 4, 2, 3, 4, 1, 2, 0, 4, 0]),
            ([7], [0, 3, 0, 2, 4]),
            ([5, 3], [0, 0, 0, 0, 0, 0, 0, 0, 1, 0, 0]),
        ])


class CaretakersAmongTheCharges(DeskCase):
    def line(self, way):
        """Caretaker 0 has caretaker 1, worker 2 and caretaker 3; 1 has 4 and 6, 3 has 5."""
        return [
            ([0, -1, way, 5, 10, 0], [0, 0]),
            ([0, 0, 0, 5, 10, 0], [0, 1]),
            ([1, 0, 0], [0, 2]),
            ([0, 0, 0, 5, 10, 0], [0, 3]),
            ([1, 1, 0], [0, 4]),
            ([1, 3, 0], [0, 5]),
            ([1, 1, 0], [0, 6]),
            ([2, 0], [0, 7, 0, 0, 1, 0, 4, 0, 6, 0, 2, 0, 3, 0, 5, 0]),
            ([4, 4], [0, 1, 4, 1]),
            ([3, 6, 1], [0, 2, 6, 3, 6, 0]),
        ]

    def test_all_for_one(self):
        self.check_line(self.line(1) + [
            ([5, 1], [0, 0, 1, 0, 5, 10, 0, 1, 0, 2, 4, 6, 1, 0]),
            ([3, 2, 1], [0, 11, 2, 3, 5, 1, 3, 1, 6, 1, 1, 1,
                         1, 0, 4, 0, 6, 0, 2, 0, 3, 0, 5, 0]),
            ([5, 4], [0, 1, 0, 0, 0, 0, 0, 1, 0, 0, 0]),
            ([5, 1], [0, 0, 1, 0, 5, 10, 0, 1, 0, 2, 4, 6, 0]),
        ])

    def test_the_rest_for_one(self):
        self.check_line(self.line(2) + [
            ([3, 2, 1], [0, 6, 2, 3, 5, 1, 3, 1, 2, 0, 3, 0, 5, 0]),
            ([5, 4], [0, 1, 0, 0, 0, 0, 0, 0, 1, 0, 0]),
        ])

    def test_a_caretaker_that_is_down_stays_down_with_its_charges(self):
        self.check_line(self.line(1) + [
            ([4, 3], [0, 2, 5, 1, 3, 1]),
            ([3, 2, 1], [0, 7, 2, 3, 6, 1, 1, 1, 1, 0, 4, 0, 6, 0, 2, 0]),
            ([7], [0, 5, 0, 1, 2, 4, 6]),
        ])


class StartedAgain(DeskCase):
    def test_always(self):
        self.check_line(booted(0, 5, 10, 0) + [
            ([3, 1, 0], [0, 2, 1, 2, 1, 0]),
            ([3, 1, 1], [0, 2, 1, 3, 1, 0]),
        ])

    def test_if_it_failed(self):
        self.check_line(booted(0, 5, 10, 1) + [
            ([3, 1, 1], [0, 2, 1, 3, 1, 0]),
            ([3, 1, 0], [0, 1, 1, 2]),
            ([7], [0, 4, 0, 2, 3, 4]),
            ([5, 0], [0, 0, 1, 0, 5, 10, 0, 1, 0, 4, 1, 2, 3, 4, 1, 0]),
        ])

    def test_never(self):
        self.check_line(booted(1, 5, 10, 2) + [
            ([3, 1, 1], [0, 1, 1, 3]),
            ([3, 2, 0], [0, 1, 2, 2]),
            ([7], [0, 3, 0, 3, 4]),
            ([5, 0], [0, 0, 1, 1, 5, 10, 0, 1, 0, 4, 1, 2, 3, 4, 0]),
        ])

    def test_never_even_where_the_caretaker_may_start_none_again(self):
        self.check_line(booted(0, 0, 10, 2) + [
            ([3, 1, 1], [0, 1, 1, 3]),
            ([7], [0, 4, 0, 2, 3, 4]),
        ])

    def test_booted_by_hand_it_is_up_again(self):
        self.check_line(booted(0, 5, 10, 2) + [
            ([3, 1, 1], [0, 1, 1, 3]),
            ([2, 1], [0, 1, 1, 0]),
            ([5, 0], [0, 0, 1, 0, 5, 10, 0, 1, 0, 4, 1, 2, 3, 4, 0]),
        ])


class MinutesKept(DeskCase):
    def test_one_short_of_w_the_caretaker_fails(self):
        self.check_line([
            ([0, -1, 0, 1, 10, 0], [0, 0]),
            ([1, 0, 0], [0, 1]),
            ([2, 0], [0, 2, 0, 0, 1, 0]),
            ([3, 1, 1], [0, 2, 1, 3, 1, 0]),
            ([8, 9], [0, 9]),
            ([3, 1, 1], [0, 2, 1, 3, 0, 3]),
            ([5, 0], [0, 0, 1, 0, 1, 10, 0, 0, 0, 1, 1, 1, 0]),
        ])

    def test_just_at_w_the_minute_is_let_go(self):
        self.check_line([
            ([0, -1, 0, 1, 10, 0], [0, 0]),
            ([1, 0, 0], [0, 1]),
            ([2, 0], [0, 2, 0, 0, 1, 0]),
            ([3, 1, 1], [0, 2, 1, 3, 1, 0]),
            ([8, 10], [0, 10]),
            ([5, 0], [0, 0, 1, 0, 1, 10, 0, 1, 0, 1, 1, 1, 0]),
            ([3, 1, 1], [0, 2, 1, 3, 1, 0]),
            ([5, 0], [0, 0, 1, 0, 1, 10, 0, 1, 0, 1, 1, 1, 10]),
        ])

    def test_several_in_their_order(self):
        self.check_line(booted(0, 3, 10) + [
            ([3, 1, 1], [0, 2, 1, 3, 1, 0]),
            ([8, 5], [0, 5]),
            ([3, 2, 1], [0, 2, 2, 3, 2, 0]),
            ([3, 2, 1], [0, 2, 2, 3, 2, 0]),
            ([8, 5], [0, 10]),
            ([3, 3, 1], [0, 2, 3, 3, 3, 0]),
            ([5, 0], [0, 0, 1, 0, 3, 10, 0, 1, 0, 4, 1, 2, 3, 4, 3, 5, 5, 10]),
            ([8, 4], [0, 14]),
            ([3, 3, 0], [0, 5, 3, 2, 4, 1, 2, 1, 1, 1, 0, 3]),
            ([5, 0], [0, 0, 1, 0, 3, 10, 0, 0, 0, 4, 1, 2, 3, 4, 3, 5, 5, 10]),
            ([2, 0], [0, 5, 0, 0, 1, 0, 2, 0, 3, 0, 4, 0]),
            ([5, 0], [0, 0, 1, 0, 3, 10, 0, 1, 0, 4, 1, 2, 3, 4, 0]),
        ])

    def test_none_at_all_may_be_started_again(self):
        self.check_line(booted(1, 0, 10) + [
            ([3, 2, 1], [0, 5, 2, 3, 4, 1, 3, 1, 1, 1, 0, 3]),
            ([7], [0, 0]),
        ])

    def test_the_greatest_n_within_one_minute(self):
        line = booted(0, 20, 1)
        for number in range(20):
            line.append(([3, 1, 1], [0, 2, 1, 3, 1, 0]))
        line.append(([5, 0], [0, 0, 1, 0, 20, 1, 0, 1, 0, 4, 1, 2, 3, 4, 20] + [0] * 20))
        line.append(([3, 1, 1], [0, 5, 1, 3, 4, 1, 3, 1, 2, 1, 0, 3]))
        self.check_line(line)

    def test_the_greatest_w(self):
        for minutes, answer in ((999, [0, 5, 1, 3, 4, 1, 3, 1, 2, 1, 0, 3]), (1000, [0, 2, 1, 3, 1, 0])):
            self.check_line(booted(0, 1, 1000) + [
                ([3, 1, 1], [0, 2, 1, 3, 1, 0]),
                ([8, minutes], [0, minutes]),
                ([3, 1, 1], answer),
            ])


class CaretakersThatFail(DeskCase):
    def line(self, again, times=1, way=0):
        """Caretaker 0 has caretaker 1 and worker 2; 1 has workers 3, 4 and 5."""
        return [
            ([0, -1, way, times, 10, 0], [0, 0]),
            ([0, 0, 0, 1, 10, again], [0, 1]),
            ([1, 0, 0], [0, 2]),
            ([1, 1, 0], [0, 3]),
            ([1, 1, 0], [0, 4]),
            ([1, 1, 0], [0, 5]),
            ([2, 0], [0, 6, 0, 0, 1, 0, 3, 0, 4, 0, 5, 0, 2, 0]),
            ([3, 4, 1], [0, 2, 4, 3, 4, 0]),
        ]

    def test_its_own_caretaker_starts_it_again_with_its_charges(self):
        for again in (0, 1):
            self.check_line(self.line(again) + [
                ([8, 3], [0, 3]),
                ([3, 4, 1], [0, 8, 4, 3, 5, 1, 3, 1, 1, 3, 1, 0, 3, 0, 4, 0, 5, 0]),
                ([5, 0], [0, 0, 1, 0, 1, 10, 0, 1, 0, 2, 1, 2, 1, 3]),
                ([5, 1], [0, 0, 1, 0, 1, 10, again, 1, 0, 3, 3, 4, 5, 0]),
                ([7], [0, 6, 0, 1, 2, 3, 4, 5]),
            ])

    def test_it_failed_even_if_its_charge_only_ended(self):
        self.check_line(self.line(1) + [
            ([3, 4, 0], [0, 8, 4, 2, 5, 1, 3, 1, 1, 3, 1, 0, 3, 0, 4, 0, 5, 0]),
        ])

    def test_never_to_be_started_again(self):
        self.check_line(self.line(2) + [
            ([3, 4, 1], [0, 4, 4, 3, 5, 1, 3, 1, 1, 3]),
            ([7], [0, 2, 0, 2]),
            ([5, 0], [0, 0, 1, 0, 1, 10, 0, 1, 0, 2, 1, 2, 0]),
            ([5, 1], [0, 0, 1, 0, 1, 10, 2, 0, 0, 3, 3, 4, 5, 1, 0]),
        ])

    def test_charges_stopped_by_hand_or_ended_are_started_with_it(self):
        self.check_line(self.line(0) + [
            ([4, 5], [0, 1, 5, 1]),
            ([3, 4, 1], [0, 7, 4, 3, 3, 1, 1, 3, 1, 0, 3, 0, 4, 0, 5, 0]),
            ([5, 5], [0, 1, 0, 0, 0, 0, 0, 1, 0, 0, 0]),
        ])

    def test_all_for_one_above_it(self):
        self.check_line(self.line(0, 1, 1) + [
            ([3, 4, 1], [0, 10, 4, 3, 5, 1, 3, 1, 1, 3, 2, 1, 1, 0, 3, 0, 4, 0, 5, 0, 2, 0]),
        ])

    def test_up_to_the_first_node(self):
        self.check_line(self.line(0, 0) + [
            ([3, 4, 1], [0, 6, 4, 3, 5, 1, 3, 1, 1, 3, 2, 1, 0, 3]),
            ([7], [0, 0]),
            ([5, 0], [0, 0, 1, 0, 0, 10, 0, 0, 0, 2, 1, 2, 0]),
            ([6, 8], [0, 14, 6, 0, 4, 3, 0, 5, 1, 0, 3, 1, 0, 1, 3, 0, 2, 1, 0, 0, 3]),
            ([2, 0], [0, 6, 0, 0, 1, 0, 3, 0, 4, 0, 5, 0, 2, 0]),
        ])

    def test_through_all_five_depths(self):
        self.check_line([
            ([0, -1, 0, 0, 1, 0], [0, 0]),
            ([0, 0, 0, 0, 1, 1], [0, 1]),
            ([0, 1, 1, 0, 1, 0], [0, 2]),
            ([0, 2, 2, 0, 1, 1], [0, 3]),
            ([1, 3, 0], [0, 4]),
            ([1, 0, 0], [0, 5]),
            ([1, 2, 0], [0, 6]),
            ([2, 0], [0, 7, 0, 0, 1, 0, 2, 0, 3, 0, 4, 0, 6, 0, 5, 0]),
            ([3, 4, 0], [0, 7, 4, 2, 3, 3, 6, 1, 2, 3, 1, 3, 5, 1, 0, 3]),
            ([7], [0, 0]),
        ])

    def test_again_and_again(self):
        restart = [0, 8, 4, 3, 5, 1, 3, 1, 1, 3, 1, 0, 3, 0, 4, 0, 5, 0]
        self.check_line(self.line(0, 2) + [
            ([3, 4, 1], restart),
            ([3, 4, 1], [0, 2, 4, 3, 4, 0]),
            ([3, 4, 1], restart),
            ([5, 0], [0, 0, 1, 0, 2, 10, 0, 1, 0, 2, 1, 2, 2, 0, 0]),
            ([3, 2, 1], [0, 6, 2, 3, 5, 1, 4, 1, 3, 1, 1, 1, 0, 3]),
        ])


class DownRefusals(DeskCase):
    BEFORE = [[0, -1, 0, 3, 10, 0], [1, 0, 0], [0, 0, 0, 3, 10, 0], [1, 0, 2]]
    UP = BEFORE + [[2, 0]]

    def test_there_is_no_such_node(self):
        for number in (LEAST, -1, 4, 20, GREATEST):
            self.check_refused(self.UP, [3, number, 1], -2)
        self.check_refused([], [3, 0, 0], -2)

    def test_failed_or_not(self):
        self.check_range(self.UP, [3, 1, 0], 2, 0, 1)

    def test_a_caretaker_does_not_go_down_so(self):
        self.check_refused(self.UP, [3, 0, 1], -6)
        self.check_refused(self.UP, [3, 2, 0], -6)

    def test_it_is_down(self):
        self.check_refused(self.BEFORE, [3, 1, 1], -4)
        self.check_refused(self.UP + [[3, 3, 1]], [3, 3, 1], -4)
        self.check_refused(self.UP + [[4, 1]], [3, 1, 0], -4)

    def test_the_first_refusal_in_the_order(self):
        self.check_refused(self.UP, [3, 4, 2], -2)
        self.check_refused([], [3, -1, LEAST], -2)
        self.check_refused(self.UP, [3, 0, 2], -1)
        self.check_refused(self.BEFORE, [3, 1, -1], -1)
        self.check_refused(self.BEFORE, [3, 2, 2], -1)
        self.check_refused(self.BEFORE, [3, 0, 1], -6)
        self.check_refused(self.BEFORE, [3, 2, 0], -6)
