"""The calls on the store: each takes the desk and the call's numbers, and gives back its answer."""

from caretakers.refusals import NOT_THERE
from caretakers.refusals import OUT_OF_RANGE
from caretakers.refusals import TOO_MUCH
from caretakers.refusals import are_within
from caretakers.refusals import is_key
from caretakers.refusals import is_within

GREATEST_VALUE = 1000000000
MOST_ASKS = 100
SETTINGS_RANGES = ((1, 8), (0, 1000), (0, 5), (1, 100), (1, 1000))


def settings_call(desk, numbers):
    if not are_within(numbers, SETTINGS_RANGES):
        return [OUT_OF_RANGE]
    desk.store.settle(numbers[0], numbers[1], numbers[2], numbers[3], numbers[4])
    return [0]


def ask_call(desk, numbers):
    if not is_key(numbers[0]):
        return [OUT_OF_RANGE]
    if desk.store.asked == MOST_ASKS:
        return [TOO_MUCH]
    return [0] + desk.store.ask(numbers[0], desk.now)


def finish_call(desk, numbers):
    key = numbers[0]
    value = numbers[1]
    if not is_within(value, -GREATEST_VALUE, GREATEST_VALUE) or not is_key(key):
        return [OUT_OF_RANGE]
    work = desk.store.work_of(key)
    if work is None:
        return [NOT_THERE]
    desk.store.finish(work, value, desk.now)
    return [0, len(work.waiting)] + work.waiting


def fail_call(desk, numbers):
    key = numbers[0]
    if not is_key(key):
        return [OUT_OF_RANGE]
    work = desk.store.work_of(key)
    if work is None:
        return [NOT_THERE]
    desk.store.fail(work, desk.now)
    return [0, len(work.waiting)] + work.waiting + [desk.store.minute_of(key)]


def leave_call(desk, numbers):
    ask = numbers[0]
    if ask < 0:
        return [OUT_OF_RANGE]
    work = desk.store.work_awaited_by(ask)
    if work is None:
        return [NOT_THERE]
    return [0, 1 if desk.store.leave(work, ask) else 0]


def forget_call(desk, numbers):
    if not is_key(numbers[0]):
        return [OUT_OF_RANGE]
    desk.store.forget(numbers[0])
    return [0]


def kept_call(desk, numbers):
    store = desk.store
    told = [0, len(store.answers)]
    for answer in store.answers:
        told.extend([answer.key, answer.value, answer.since, 1 if store.is_fresh(answer, desk.now) else 0])
    return told


def works_call(desk, numbers):
    told = [0, len(desk.store.works)]
    for work in desk.store.works:
        told.extend([work.key, work.since, 1 if work.will_be_kept else 0])
        told.extend([len(work.waiting)] + work.waiting)
    return told


def breaker_call(desk, numbers):
    key = numbers[0]
    if not is_key(key):
        return [OUT_OF_RANGE]
    return [0, desk.store.faults_of(key), desk.store.minute_of(key)]


def counts_call(desk, numbers):
    store = desk.store
    told = [0, desk.now, len(desk.tree.nodes), store.asked, store.asked_fresh, store.asked_anew]
    return told + [store.room, store.age, store.limit, store.base, store.most]


STORE_CALLS = {
    9: settings_call,
    10: ask_call,
    11: finish_call,
    12: fail_call,
    13: leave_call,
    14: forget_call,
    15: kept_call,
    16: works_call,
    17: breaker_call,
    18: counts_call,
}


def answer_store_call(desk, call, numbers):
    return STORE_CALLS[call](desk, numbers)
