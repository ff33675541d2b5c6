"""The calls on the store: each takes the desk and the call's numbers, and gives back its answer."""

from caretakers.refusals import NOT_THERE
from caretakers.refusals import OUT_OF_RANGE
from caretakers.refusals import TOO_MUCH
from caretakers.refusals import are_within
from caretakers.refusals import is_within

GREATEST_KEY = 99
GREATEST_VALUE = 1000000000
MOST_ASKS = 100
SETTINGS_RANGES = ((1, 8), (0, 1000), (0, 5), (1, 100), (1, 1000))


def is_key(number):
    return is_within(number, 0, GREATEST_KEY)


def settings_call(desk, numbers):
    if not are_within(numbers, SETTINGS_RANGES):
        return [OUT_OF_RANGE]
    desk.store.settle(numbers[0], numbers[1], numbers[2], numbers[3], numbers[4])
    return [0]


def ask_call(desk, numbers):
    if not is_key(numbers[0]):
        return [OUT_OF_RANGE]
    if desk.store.asked == MOST_ASKS:
        return [TOO_MUCH]
    return [0] + desk.store.ask(numbers[0], desk.now)


def finish_call(desk, numbers):
    key = numbers[0]
    value = numbers[1]
    if not is_within(value, -GREATEST_VALUE, GREATEST_VALUE) or not is_key(key):
        return [OUT_OF_RANGE]
    work = desk.store.work_of(key)
    if work is None:
        return [NOT_THERE]
    desk.store.finish(work, value, desk.now)
    return [0, len(work.waiting)] + work.waiting


def fail_call(desk, numbers):
    key = numbers[0]
    if not is_key(key):
        return [OUT_OF_RANGE]
    work = desk.store.work_of(key)
    if work is None:
        return [NOT_THERE]
    desk.store.fail(work, desk.now)
    return [0, len(work.waiting)] + work.waiting + [desk.store.untried_till[key]]


def leave_call(desk, numbers):
    ask = numbers[0]
    if ask < 0:
        return [OUT_OF_RANGE]
    work = desk.store.work_awaited_by(ask)
    if work is None:
        return [NOT_THERE]
    return [0, 1 if desk.store.leave(work, ask) else 0]


STORE_CALLS = {
    9: settings_call,
    10: ask_call,
    11: finish_call,
    12: fail_call,
    13: leave_call,
}


def answer_store_call(desk, call, numbers):
    return STORE_CALLS[call](desk, numbers)
