"""settings, ask, finish, fail and leave."""

from caretakers.store import Store
from tests.desk_case import GREATEST, LEAST, DeskCase


def kept(first_ask, pairs):
    """The line that has each key asked for and its work finished with the value, in order."""
    line = []
    for place, (key, value) in enumerate(pairs):
        ask = first_ask + place
        line.append(([10, key], [0, ask, 4, 0]))
        line.append(([11, key, value], [0, 1, ask]))
    return line


class Settings(DeskCase):
    def test_ranges(self):
        call = [9, 4, 10, 2, 3, 50]
        self.check_line([(call, [0])])
        self.check_range([], call, 1, 1, 8)
        self.check_range([], call, 2, 0, 1000)
        self.check_range([], call, 3, 0, 5)
        self.check_range([], call, 4, 1, 100)
        self.check_range([], call, 5, 1, 1000)

    def test_refused_settings_are_not_there_in_part(self):
        before = [[10, 1], [11, 1, 5], [10, 2], [11, 2, 6], [10, 3]]
        self.check_refused(before, [9, 1, 1, 1, 100, 1001], -1)
        self.check_refused(before, [9, 1, 1, 1, 0, 1000], -1)

    def test_the_last_answers_beyond_the_room_are_dropped(self):
        self.check_line(kept(0, [(1, 10), (2, 20), (3, 30)]) + [
            ([9, 2, 0, 0, 1, 1], [0]),
            ([9, 8, 0, 0, 1, 1], [0]),
            ([10, 2], [0, 3, 1, 20]),
            ([10, 3], [0, 4, 1, 30]),
            ([10, 1], [0, 5, 4, 0]),
        ])

    def test_the_room_grows(self):
        keys = [(key, 100 + key) for key in range(9)]
        line = [([9, 8, 0, 0, 1, 1], [0])] + kept(0, keys)
        line += [([10, key], [0, 8 + key, 1, 100 + key]) for key in range(1, 9)]
        line += [([10, 0], [0, 17, 4, 0])]
        self.check_line(line)

    def test_at_first_the_room_is_four_and_the_age_none(self):
        self.check_line(kept(0, [(1, 10), (2, 20), (3, 30), (4, 40), (5, 50)]) + [
            ([8, 1000], [0, 1000]),
            ([8, 1000], [0, 2000]),
            ([10, 2], [0, 5, 1, 20]),
            ([10, 3], [0, 6, 1, 30]),
            ([10, 4], [0, 7, 1, 40]),
            ([10, 5], [0, 8, 1, 50]),
            ([10, 1], [0, 9, 4, 2000]),
        ])

    def test_at_first_there_is_no_limit(self):
        line = []
        for ask in range(8):
            line.append(([10, 7], [0, ask, 4, 0]))
            line.append(([12, 7], [0, 1, ask, 0]))
        self.check_line(line)

    def test_at_first_base_and_most_are_one(self):
        store = Store()
        self.assertEqual((store.room, store.age, store.limit, store.base, store.most), (4, 0, 0, 1, 1))


class Ask(DeskCase):
    def test_all_four_outcomes(self):
        self.check_line([
            ([9, 4, 10, 1, 5, 100], [0]),
            ([8, 3], [0, 3]),
            ([10, 7], [0, 0, 4, 3]),
            ([8, 2], [0, 5]),
            ([10, 7], [0, 1, 2, 3]),
            ([10, 8], [0, 2, 4, 5]),
            ([11, 7, -12], [0, 2, 0, 1]),
            ([10, 7], [0, 3, 1, -12]),
            ([12, 8], [0, 1, 2, 10]),
            ([10, 8], [0, 4, 3, 10]),
            ([8, 4], [0, 9]),
            ([10, 8], [0, 5, 3, 10]),
            ([8, 1], [0, 10]),
            ([10, 8], [0, 6, 4, 10]),
        ])

    def test_the_edges_of_the_keys(self):
        self.check_range([], [10, 0], 1, 0, 99)
        self.check_range([[10, 1], [11, 1, 5], [10, 2]], [10, 0], 1, 0, 99)

    def test_the_age_just_reached_and_one_short_of_it(self):
        for minutes, answer in ((9, [0, 1, 1, 5]), (10, [0, 1, 4, 14])):
            self.check_line([
                ([9, 4, 10, 0, 1, 1], [0]),
                ([8, 4], [0, 4]),
                ([10, 1], [0, 0, 4, 4]),
                ([11, 1, 5], [0, 1, 0]),
                ([8, minutes], [0, 4 + minutes]),
                ([10, 1], answer),
            ])

    def test_an_answer_is_as_old_as_its_work_ended(self):
        self.check_line([
            ([9, 4, 10, 0, 1, 1], [0]),
            ([10, 1], [0, 0, 4, 0]),
            ([8, 20], [0, 20]),
            ([11, 1, 5], [0, 1, 0]),
            ([8, 9], [0, 29]),
            ([10, 1], [0, 1, 1, 5]),
            ([8, 1], [0, 30]),
            ([10, 1], [0, 2, 4, 30]),
        ])

    def test_the_greatest_age(self):
        for minutes, outcome in ((999, [1, 5]), (1000, [4, 1000])):
            self.check_line([
                ([9, 4, 1000, 0, 1, 1], [0]),
                ([10, 1], [0, 0, 4, 0]),
                ([11, 1, 5], [0, 1, 0]),
                ([8, minutes], [0, minutes]),
                ([10, 1], [0, 1] + outcome),
            ])

    def test_what_is_not_fresh_is_dropped_when_a_work_begins(self):
        self.check_line([
            ([9, 4, 5, 0, 1, 1], [0]),
            ([10, 1], [0, 0, 4, 0]),
            ([11, 1, 7], [0, 1, 0]),
            ([8, 5], [0, 5]),
            ([10, 1], [0, 1, 4, 5]),
            ([13, 1], [0, 1]),
            ([9, 4, 0, 0, 1, 1], [0]),
            ([10, 1], [0, 2, 4, 5]),
        ])

    def test_what_is_not_fresh_is_kept_till_then(self):
        self.check_line([
            ([9, 2, 5, 0, 1, 1], [0]),
            ([10, 1], [0, 0, 4, 0]),
            ([10, 2], [0, 1, 4, 0]),
            ([10, 3], [0, 2, 4, 0]),
            ([11, 1, 10], [0, 1, 0]),
            ([11, 2, 20], [0, 1, 1]),
            ([8, 5], [0, 5]),
            ([11, 3, 30], [0, 1, 2]),
            ([9, 8, 0, 0, 1, 1], [0]),
            ([10, 2], [0, 3, 1, 20]),
            ([10, 3], [0, 4, 1, 30]),
            ([10, 1], [0, 5, 4, 5]),
        ])

    def test_an_answer_asked_for_stands_first(self):
        self.check_line([([9, 2, 0, 0, 1, 1], [0])] + kept(0, [(1, 10), (2, 20)]) + [
            ([10, 1], [0, 2, 1, 10]),
            ([10, 3], [0, 3, 4, 0]),
            ([11, 3, 30], [0, 1, 3]),
            ([10, 1], [0, 4, 1, 10]),
            ([10, 3], [0, 5, 1, 30]),
            ([10, 2], [0, 6, 4, 0]),
        ])

    def test_an_answer_asked_for_often_takes_one_place(self):
        self.check_line([([9, 3, 0, 0, 1, 1], [0])] + kept(0, [(1, 10), (2, 20)]) + [
            ([10, 1], [0, 2, 1, 10]),
            ([10, 1], [0, 3, 1, 10]),
            ([10, 3], [0, 4, 4, 0]),
            ([11, 3, 30], [0, 1, 4]),
            ([10, 2], [0, 5, 1, 20]),
            ([10, 1], [0, 6, 1, 10]),
            ([10, 3], [0, 7, 1, 30]),
        ])

    def test_an_answer_in_the_middle_or_last_comes_to_stand_first(self):
        for key in (1, 2, 3):
            self.check_line(kept(0, [(1, 10), (2, 20), (3, 30), (4, 40)]) + [
                ([10, key], [0, 4, 1, 10 * key]),
                ([9, 1, 0, 0, 1, 1], [0]),
                ([10, key], [0, 5, 1, 10 * key]),
                ([10, 4], [0, 6, 4, 0]),
            ])

    def test_an_answer_asked_for_is_no_younger(self):
        self.check_line([
            ([9, 4, 5, 0, 1, 1], [0]),
            ([10, 1], [0, 0, 4, 0]),
            ([11, 1, 7], [0, 1, 0]),
            ([8, 4], [0, 4]),
            ([10, 1], [0, 1, 1, 7]),
            ([8, 1], [0, 5]),
            ([10, 1], [0, 2, 4, 5]),
        ])

    def test_a_hundred_asks_at_most(self):
        line = [([10, 5], [0, 0, 4, 0])]
        line += [([10, 5], [0, ask, 2, 0]) for ask in range(1, 100)]
        self.check_line(line + [
            ([10, 5], [-7]),
            ([10, 6], [-7]),
            ([10, 100], [-1]),
            ([10, -1], [-1]),
            ([11, 6, 1], [-2]),
            ([11, 5, 1], [0, 100] + list(range(100))),
            ([10, 5], [-7]),
        ])

    def test_a_refused_ask_leaves_all_as_it_was(self):
        before = [[10, 5], [11, 5, 1]] + [[10, 5] for ask in range(99)]
        self.check_taken(before[:-1], [10, 5])
        self.check_refused(before, [10, 5], -7)
        self.check_refused(before, [10, 6], -7)
        self.check_refused(before, [10, LEAST], -1)
        self.check_refused(before, [10, GREATEST], -1)
        # A refused ask takes no number and begins no work.
        self.check_refused([[10, 5], [10, 100]], [10, -1], -1)

    def test_every_outcome_is_an_ask_with_a_number(self):
        before = [[9, 4, 0, 1, 5, 5], [10, 1], [11, 1, 5], [10, 2], [12, 2]]
        told = self.answers_to(before + [[10, 1], [10, 2]] * 49 + [[10, 1], [10, 2]])
        self.assertEqual(told[-3], [0, 99, 3, 5])
        self.assertEqual(told[-2:], [[-7], [-7]])


class Finish(DeskCase):
    def test_the_asks_that_waited_in_order(self):
        self.check_line([
            ([10, 1], [0, 0, 4, 0]),
            ([10, 2], [0, 1, 4, 0]),
            ([10, 1], [0, 2, 2, 0]),
            ([10, 2], [0, 3, 2, 0]),
            ([10, 1], [0, 4, 2, 0]),
            ([11, 1, 7], [0, 3, 0, 2, 4]),
            ([11, 1, 8], [-2]),
            ([11, 2, 9], [0, 2, 1, 3]),
            ([10, 1], [0, 5, 1, 7]),
            ([10, 2], [0, 6, 1, 9]),
        ])

    def test_an_answer_worked_out_anew_takes_the_place_of_the_old(self):
        self.check_line([
            ([9, 4, 5, 0, 1, 1], [0]),
            ([10, 1], [0, 0, 4, 0]),
            ([11, 1, 7], [0, 1, 0]),
            ([8, 5], [0, 5]),
            ([10, 1], [0, 1, 4, 5]),
            ([11, 1, 8], [0, 1, 1]),
            ([10, 1], [0, 2, 1, 8]),
        ])

    def test_the_last_ones_beyond_the_room_are_dropped(self):
        self.check_line([([9, 1, 0, 0, 1, 1], [0])] + kept(0, [(1, 10), (2, 20)]) + [
            ([10, 2], [0, 2, 1, 20]),
            ([10, 1], [0, 3, 4, 0]),
        ])

    def test_the_newest_answer_stands_first(self):
        self.check_line(kept(0, [(1, 10), (2, 20), (3, 30), (4, 40), (5, 50), (6, 60)]) + [
            ([9, 2, 0, 0, 1, 1], [0]),
            ([10, 5], [0, 6, 1, 50]),
            ([10, 6], [0, 7, 1, 60]),
            ([10, 4], [0, 8, 4, 0]),
            ([10, 3], [0, 9, 4, 0]),
        ])

    def test_faults_and_minute_are_none_then(self):
        self.check_line([
            ([9, 4, 1, 2, 5, 100], [0]),
            ([10, 1], [0, 0, 4, 0]),
            ([12, 1], [0, 1, 0, 0]),
            ([10, 1], [0, 1, 4, 0]),
            ([11, 1, 7], [0, 1, 1]),
            ([8, 1], [0, 1]),
            ([10, 1], [0, 2, 4, 1]),
            ([12, 1], [0, 1, 2, 0]),
            ([10, 1], [0, 3, 4, 1]),
            ([12, 1], [0, 1, 3, 6]),
        ])

    def test_an_answer_that_will_not_be_kept(self):
        store = Store()
        store.settle(4, 0, 1, 5, 5)
        store.ask(1, 0)
        store.fail(store.work_of(1), 0)
        store.ask(1, 5)
        work = store.work_of(1)
        work.will_be_kept = False
        store.finish(work, 7, 5)
        self.assertEqual(store.answers, [])
        self.assertEqual((store.faults[1], store.untried_till[1]), (0, 0))
        self.assertEqual(store.ask(1, 5), [2, 4, 5])

    def test_ranges(self):
        before = [[10, 0], [10, 99]]
        for key in (0, 99):
            self.check_range(before, [11, key, 0], 2, -1000000000, 1000000000)
        for key in (LEAST, -1, 100, GREATEST):
            self.check_refused(before, [11, key, 0], -1)
        self.check_taken(before, [11, 0, 0])
        self.check_taken(before, [11, 99, 0])

    def test_the_ends_of_the_values_are_told(self):
        self.check_line(kept(0, [(1, -1000000000), (2, 1000000000)]) + [
            ([10, 1], [0, 2, 1, -1000000000]),
            ([10, 2], [0, 3, 1, 1000000000]),
        ])

    def test_no_work_is_under_way(self):
        for key in (0, 2, 99):
            self.check_refused([[10, 1]], [11, key, 5], -2)
        self.check_refused([[10, 1], [11, 1, 5]], [11, 1, 6], -2)
        self.check_refused([[10, 1], [12, 1]], [11, 1, 6], -2)
        self.check_refused([[10, 1], [13, 0]], [11, 1, 6], -2)

    def test_the_first_refusal_in_the_order(self):
        self.check_refused([[10, 1]], [11, 2, 1000000001], -1)
        self.check_refused([[10, 1]], [11, -1, 0], -1)
        self.check_refused([[10, 1]], [11, 100, -1000000001], -1)


class Fail(DeskCase):
    def faults(self, settings, pauses):
        """Each fault at the minute till which nothing was tried: the pause behind it."""
        line = [([9, 4, 0] + settings, [0])]
        now = 0
        for ask, pause in enumerate(pauses):
            line.append(([10, 1], [0, ask, 4, now]))
            line.append(([12, 1], [0, 1, ask, now + pause if pause else 0]))
            if pause:
                now += pause
                line.append(([8, pause], [0, now]))
        self.check_line(line)

    def test_the_lesser_of_most_and_base_doubled(self):
        self.faults([2, 3, 20], [0, 3, 6, 12, 20, 20])
        self.faults([1, 1, 1000], [1, 2, 4, 8, 16, 32, 64, 128, 256, 512, 1000, 1000])
        self.faults([5, 100, 1000], [0, 0, 0, 0, 100, 200, 400, 800, 1000])
        self.faults([1, 5, 10], [5, 10, 10])
        self.faults([1, 100, 1], [1, 1, 1])
        self.faults([3, 1, 1], [0, 0, 1, 1])

    def test_limit_none(self):
        self.faults([0, 100, 1000], [0, 0, 0, 0, 0, 0, 0])

    def test_many_faults_in_a_row(self):
        self.faults([1, 100, 1], [1] * 100)

    def test_the_asks_that_waited_and_the_minute(self):
        self.check_line([
            ([9, 4, 0, 1, 7, 7], [0]),
            ([8, 2], [0, 2]),
            ([10, 1], [0, 0, 4, 2]),
            ([10, 1], [0, 1, 2, 2]),
            ([10, 2], [0, 2, 4, 2]),
            ([8, 1], [0, 3]),
            ([12, 1], [0, 2, 0, 1, 10]),
            ([12, 1], [-2]),
            ([10, 2], [0, 3, 2, 2]),
            ([12, 2], [0, 2, 2, 3, 10]),
        ])

    def test_faults_of_one_key_are_not_another_ones(self):
        self.check_line([
            ([9, 4, 0, 2, 5, 100], [0]),
            ([10, 1], [0, 0, 4, 0]),
            ([12, 1], [0, 1, 0, 0]),
            ([10, 2], [0, 1, 4, 0]),
            ([12, 2], [0, 1, 1, 0]),
            ([10, 1], [0, 2, 4, 0]),
            ([12, 1], [0, 1, 2, 5]),
            ([10, 2], [0, 3, 4, 0]),
            ([10, 1], [0, 4, 3, 5]),
            ([11, 2, 9], [0, 1, 3]),
            ([10, 1], [0, 5, 3, 5]),
        ])

    def test_nothing_is_kept_of_it(self):
        self.check_line([
            ([10, 1], [0, 0, 4, 0]),
            ([12, 1], [0, 1, 0, 0]),
            ([10, 1], [0, 1, 4, 0]),
        ])

    def test_faults_count_on_under_other_settings(self):
        self.check_line([
            ([10, 1], [0, 0, 4, 0]),
            ([12, 1], [0, 1, 0, 0]),
            ([10, 1], [0, 1, 4, 0]),
            ([12, 1], [0, 1, 1, 0]),
            ([9, 4, 0, 1, 3, 100], [0]),
            ([10, 1], [0, 2, 4, 0]),
            ([12, 1], [0, 1, 2, 12]),
            ([9, 4, 0, 5, 3, 100], [0]),
            ([10, 1], [0, 3, 3, 12]),
            ([8, 12], [0, 12]),
            ([10, 1], [0, 4, 4, 12]),
            ([12, 1], [0, 1, 4, 0]),
            ([10, 1], [0, 5, 4, 12]),
        ])

    def test_refusals(self):
        before = [[9, 4, 0, 1, 5, 5], [10, 0], [10, 99], [10, 3]]
        self.check_taken(before, [12, 0])
        self.check_taken(before, [12, 99])
        for key in (LEAST, -1, 100, GREATEST):
            self.check_refused(before, [12, key], -1)
        for key in (1, 2, 98):
            self.check_refused(before, [12, key], -2)
        self.check_refused(before + [[11, 3, 5]], [12, 3], -2)
        self.check_refused(before + [[12, 3]], [12, 3], -2)
        self.check_refused(before + [[13, 2]], [12, 3], -2)
        self.check_refused([], [12, 100], -1)


class Leave(DeskCase):
    def test_a_work_for_which_nobody_waits_is_given_up(self):
        self.check_line([
            ([10, 1], [0, 0, 4, 0]),
            ([10, 1], [0, 1, 2, 0]),
            ([10, 2], [0, 2, 4, 0]),
            ([10, 1], [0, 3, 2, 0]),
            ([13, 1], [0, 0]),
            ([13, 1], [-2]),
            ([13, 0], [0, 0]),
            ([8, 5], [0, 5]),
            ([10, 1], [0, 4, 2, 0]),
            ([13, 3], [0, 0]),
            ([13, 4], [0, 1]),
            ([11, 1, 5], [-2]),
            ([12, 1], [-2]),
            ([10, 1], [0, 5, 4, 5]),
            ([11, 2, 9], [0, 1, 2]),
            ([11, 1, 9], [0, 1, 5]),
        ])

    def test_who_left_is_not_told(self):
        for call, answer in (([11, 1, 5], [0, 2, 0, 2]), ([12, 1], [0, 2, 0, 2, 0])):
            self.check_line([
                ([10, 1], [0, 0, 4, 0]),
                ([10, 1], [0, 1, 2, 0]),
                ([10, 1], [0, 2, 2, 0]),
                ([13, 1], [0, 0]),
                (call, answer),
            ])

    def test_a_work_given_up_is_no_fault_and_ends_none(self):
        self.check_line([
            ([9, 4, 0, 2, 5, 100], [0]),
            ([10, 1], [0, 0, 4, 0]),
            ([12, 1], [0, 1, 0, 0]),
            ([10, 1], [0, 1, 4, 0]),
            ([13, 1], [0, 1]),
            ([10, 1], [0, 2, 4, 0]),
            ([12, 1], [0, 1, 2, 5]),
        ])

    def test_refusals(self):
        before = [[9, 4, 0, 1, 5, 5], [10, 1], [11, 1, 5], [10, 1], [10, 2], [12, 2], [10, 2], [10, 3]]
        for ask in (LEAST, LEAST + 1, -2, -1):
            self.check_refused(before, [13, ask], -1)
        # 0 was answered, 1 came to 1, 2 failed, 3 came to 3; 4 waits.
        for ask in (0, 1, 2, 3, 5, 99, 100, GREATEST - 1, GREATEST):
            self.check_refused(before, [13, ask], -2)
        self.check_taken(before, [13, 4])
        self.check_refused(before + [[13, 4]], [13, 4], -2)
        self.check_refused([], [13, 0], -2)
