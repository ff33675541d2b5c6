"""keeper, worker and node."""

from tests.desk_case import GREATEST, LEAST, DeskCase

FIRST = [0, -1, 0, 3, 10, 0]
# Caretakers 0 to 4, each the charge of the one before: 4 has the greatest depth.
DEEP = [FIRST] + [[0, parent, 0, 3, 10, 0] for parent in range(4)]
FULL = [FIRST] + [[1, 0, 0] for number in range(19)]
# Caretaker 0, and below it worker 1 and caretaker 2.
MIXED = [FIRST, [1, 0, 0], [0, 0, 0, 3, 10, 0]]
NO_NODES = (LEAST, -2, 0, 1, GREATEST)
NO_CARETAKERS = (LEAST, -2, -1, 1, 3, 20, GREATEST)


class Keeper(DeskCase):
    def test_ordinary(self):
        self.check_line([
            ([0, -1, 2, 7, 30, 1], [0, 0]),
            ([0, 0, 1, 0, 1, 2], [0, 1]),
            ([0, 1, 0, 20, 1000, 0], [0, 2]),
            ([0, 0, 0, 4, 5, 0], [0, 3]),
            ([5, 0], [0, 0, 1, 2, 7, 30, 1, 0, 0, 2, 1, 3, 0]),
            ([5, 1], [0, 0, 1, 1, 0, 1, 2, 0, 0, 1, 2, 0]),
            ([5, 2], [0, 1, 1, 0, 20, 1000, 0, 0, 0, 0, 0]),
            ([5, 3], [0, 0, 1, 0, 4, 5, 0, 0, 0, 0, 0]),
            ([6, 0], [0, 0, 0]),
            ([7], [0, 0]),
        ])

    def test_ranges(self):
        for before, call in (([], [0, -1, 0, 3, 10, 0]), (MIXED, [0, 2, 0, 3, 10, 0])):
            self.check_range(before, call, 2, 0, 2)
            self.check_range(before, call, 3, 0, 20)
            self.check_range(before, call, 4, 1, 1000)
            self.check_range(before, call, 5, 0, 2)

    def test_twenty_nodes_at_most(self):
        self.check_taken(FULL[:-1], [0, 0, 0, 3, 10, 0])
        self.check_refused(FULL, [0, 0, 0, 3, 10, 0], -3)

    def test_the_first_has_no_parent(self):
        for parent in NO_NODES:
            self.check_refused([], [0, parent, 0, 3, 10, 0], -2)

    def test_the_parent_is_a_caretaker(self):
        for parent in NO_CARETAKERS:
            self.check_refused(MIXED, [0, parent, 0, 3, 10, 0], -2)

    def test_the_parent_is_down(self):
        self.check_refused(MIXED + [[2, 0]], [0, 2, 0, 3, 10, 0], -4)
        self.check_refused([FIRST, [2, 0]], [0, 0, 0, 3, 10, 0], -4)
        self.check_taken(MIXED + [[2, 0], [4, 2]], [0, 2, 0, 3, 10, 0])

    def test_depth_five_at_most(self):
        self.check_taken(DEEP[:-1], DEEP[-1])
        self.check_refused(DEEP, [0, 4, 0, 3, 10, 0], -5)

    def test_the_first_refusal_in_the_order(self):
        self.check_refused(FULL, [0, 0, 3, 3, 10, 0], -1)
        self.check_refused([], [0, 5, 0, 3, 0, 0], -1)
        self.check_refused(MIXED + [[2, 0]], [0, 0, 0, 21, 10, 0], -1)
        self.check_refused(DEEP, [0, 4, 0, 3, 10, 3], -1)
        self.check_refused(FULL, [0, 77, 0, 3, 10, 0], -3)
        self.check_refused(FULL + [[2, 0]], [0, 0, 0, 3, 10, 0], -3)
        self.check_refused(MIXED + [[2, 0]], [0, 1, 0, 3, 10, 0], -2)
        self.check_refused(DEEP + [[2, 0]], [0, 4, 0, 3, 10, 0], -4)

    def test_no_place_ahead_of_too_deep(self):
        full_and_deep = DEEP + [[1, 0, 0] for number in range(15)]
        self.check_refused(full_and_deep, [0, 4, 0, 3, 10, 0], -3)


class Worker(DeskCase):
    def test_ordinary(self):
        self.check_line([
            ([0, -1, 1, 3, 10, 0], [0, 0]),
            ([1, 0, 0], [0, 1]),
            ([1, 0, 1], [0, 2]),
            ([1, 0, 2], [0, 3]),
            ([5, 0], [0, 0, 1, 1, 3, 10, 0, 0, 0, 3, 1, 2, 3, 0]),
            ([5, 1], [0, 0, 0, 0, 0, 0, 0, 0, 0, 0, 0]),
            ([5, 2], [0, 0, 0, 0, 0, 0, 1, 0, 0, 0, 0]),
            ([5, 3], [0, 0, 0, 0, 0, 0, 2, 0, 0, 0, 0]),
            ([7], [0, 0]),
        ])

    def test_range(self):
        self.check_range(MIXED, [1, 2, 0], 2, 0, 2)

    def test_twenty_nodes_at_most(self):
        self.check_taken(FULL[:-1], [1, 0, 0])
        self.check_refused(FULL, [1, 0, 0], -3)

    def test_the_parent_is_a_caretaker(self):
        for parent in NO_CARETAKERS:
            self.check_refused(MIXED, [1, parent, 0], -2)

    def test_the_parent_is_down(self):
        self.check_refused(MIXED + [[2, 0]], [1, 2, 0], -4)
        self.check_taken(MIXED + [[2, 0], [4, 2]], [1, 2, 0])

    def test_depth_five_at_most(self):
        self.check_taken(DEEP[:-1], [1, 3, 0])
        self.check_refused(DEEP, [1, 4, 0], -5)

    def test_the_first_node_is_no_worker(self):
        self.check_refused([], [1, -1, 0], -6)

    def test_the_first_refusal_in_the_order(self):
        self.check_refused([], [1, -1, 3], -1)
        self.check_refused([], [1, 5, -1], -1)
        self.check_refused(FULL, [1, 0, 3], -1)
        self.check_refused(DEEP, [1, 4, -1], -1)
        self.check_refused(FULL, [1, -1, 0], -3)
        self.check_refused(FULL + [[2, 0]], [1, 0, 0], -3)
        for parent in NO_NODES:
            self.check_refused([], [1, parent, 0], -2)
        self.check_refused(MIXED + [[2, 0]], [1, 1, 0], -2)
        self.check_refused(DEEP + [[2, 0]], [1, 4, 0], -4)


class NodeCall(DeskCase):
    def test_there_is_no_such_node(self):
        for number in (LEAST, -1, 0, GREATEST):
            self.check_refused([], [5, number], -2)
        for number in (LEAST, -3, -1, 3, 20, GREATEST):
            self.check_refused(MIXED, [5, number], -2)

    def test_up_and_stopped_by_hand(self):
        self.check_line([
            (FIRST, [0, 0]),
            ([1, 0, 2], [0, 1]),
            ([2, 0], [0, 2, 0, 0, 1, 0]),
            ([5, 0], [0, 0, 1, 0, 3, 10, 0, 1, 0, 1, 1, 0]),
            ([5, 1], [0, 0, 0, 0, 0, 0, 2, 1, 0, 0, 0]),
            ([4, 1], [0, 1, 1, 1]),
            ([5, 1], [0, 0, 0, 0, 0, 0, 2, 0, 1, 0, 0]),
            ([5, 0], [0, 0, 1, 0, 3, 10, 0, 1, 0, 1, 1, 0]),
        ])

    def test_asking_changes_nothing(self):
        told = self.answers_to(MIXED + [[2, 0], [5, 0], [5, 0], [5, 2], [5, 0]])
        self.assertEqual(told[-1], told[-3])
        self.assertEqual(told[-1], told[-4])
