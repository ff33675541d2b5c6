"""The desk: takes one list of calls on a new object, and gives back one list of answers."""

from caretakers.node_calls import answer_node_call
from caretakers.refusals import OUT_OF_RANGE
from caretakers.refusals import TOO_MUCH
from caretakers.refusals import is_within
from caretakers.row_calls import answer_row_call
from caretakers.store import Store
from caretakers.store_calls import answer_store_call
from caretakers.tree import Tree

GREATEST_NOW = 10000
GREATEST_PASS = 1000
PASS_CALL = 8
FIRST_CALL_WITH_ROW = 19

# By a call's number: how many whole numbers stand behind it, its row apart.
SIZES = {
    0: 5, 1: 2, 2: 1, 3: 2, 4: 1, 5: 1, 6: 1, 7: 0, 8: 1,
    9: 5, 10: 1, 11: 2, 12: 1, 13: 1, 14: 1, 15: 0, 16: 0, 17: 1, 18: 0,
    19: 1, 20: 0, 21: 1, 22: 1, 23: 2, 24: 2, 25: 1, 26: 3, 27: 2,
}


class Desk:
    """The object that a line's calls are made on."""

    def __init__(self):
        self.now = 0
        self.tree = Tree()
        self.store = Store()


def pass_call(desk, minutes):
    if not is_within(minutes, 1, GREATEST_PASS):
        return [OUT_OF_RANGE]
    if desk.now + minutes > GREATEST_NOW:
        return [TOO_MUCH]
    desk.now += minutes
    return [0, desk.now]


def answer_call(desk, call, numbers):
    if call < PASS_CALL:
        return answer_node_call(desk, call, numbers)
    if call == PASS_CALL:
        return pass_call(desk, numbers[0])
    return answer_store_call(desk, call, numbers)


def row_at(calls, place):
    """The row whose length stands at this place."""
    return calls[place + 1:place + 1 + calls[place]]


def answers(calls):
    """For each call, in order: how many numbers are answered, then these."""
    desk = Desk()
    told = []
    place = 0
    while place < len(calls):
        call = calls[place]
        behind = place + 1 + SIZES[call]
        numbers = calls[place + 1:behind]
        if call >= FIRST_CALL_WITH_ROW:
            row = row_at(calls, behind)
            behind += 1 + len(row)
            answer = answer_row_call(call, numbers, row)
        else:
            answer = answer_call(desk, call, numbers)
        told.append(len(answer))
        told.extend(answer)
        place = behind
    return told
