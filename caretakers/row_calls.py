"""The calls with a row: each takes the call's numbers and its row, and gives back its answer."""

from caretakers.gates import crowd_of
from caretakers.gates import first_let_through
from caretakers.gates import let_through
from caretakers.gates import let_through_by_bucket
from caretakers.gates import most_let_through
from caretakers.letting_go import depths_of
from caretakers.letting_go import fewest_misses
from caretakers.letting_go import held_by_last_use
from caretakers.letting_go import misses_by_best_way
from caretakers.letting_go import misses_by_last_use
from caretakers.letting_go import misses_in_turn
from caretakers.refusals import GREATEST_KEY
from caretakers.refusals import OUT_OF_RANGE
from caretakers.refusals import are_within
from caretakers.refusals import is_within

GREATEST_ROOM = 20
MOST_KEYS = 60
GREATEST_ROOM_OF_BEST = 4
MOST_KEYS_OF_BEST = 14
GREATEST_KEY_OF_BEST = 7
GREATEST_MINUTE = 1000000
MOST_MINUTES = 60
MOST_MINUTES_OF_MOST = 10

GATE_RANGES = ((0, 20), (1, 1000))
BUCKET_RANGES = ((1, 20), (1, 1000))
CROWD_RANGES = ((1, 1000),)
NEXT_RANGES = ((0, 20), (1, 1000), (0, 1000000))


def is_row_of(row, longest, greatest):
    """Whether the row has so many numbers at most, each from 0 to the greatest."""
    return len(row) <= longest and all([is_within(number, 0, greatest) for number in row])


def never_falls(row):
    return all([before <= behind for before, behind in zip(row, row[1:])])


def are_minutes(row, longest, greatest):
    return is_row_of(row, longest, greatest) and never_falls(row)


def is_room_with_keys(room, row):
    return is_within(room, 1, GREATEST_ROOM) and is_row_of(row, MOST_KEYS, GREATEST_KEY)


def with_list(numbers):
    return [0, len(numbers)] + numbers


def ways_call(numbers, row):
    room = numbers[0]
    if not is_room_with_keys(room, row):
        return [OUT_OF_RANGE]
    return [0, misses_by_last_use(room, row), misses_in_turn(room, row), misses_by_best_way(room, row)]


def depths_call(numbers, row):
    if not is_row_of(row, MOST_KEYS, GREATEST_KEY):
        return [OUT_OF_RANGE]
    return [0] + depths_of(row)


def best_call(numbers, row):
    room = numbers[0]
    if not is_within(room, 1, GREATEST_ROOM_OF_BEST):
        return [OUT_OF_RANGE]
    if not is_row_of(row, MOST_KEYS_OF_BEST, GREATEST_KEY_OF_BEST):
        return [OUT_OF_RANGE]
    return [0, fewest_misses(room, row)]


def late_call(numbers, row):
    room = numbers[0]
    if not is_room_with_keys(room, row):
        return [OUT_OF_RANGE]
    return with_list(held_by_last_use(room, row))


def gate_call(numbers, row):
    if not are_within(numbers, GATE_RANGES) or not are_minutes(row, MOST_MINUTES, GREATEST_MINUTE):
        return [OUT_OF_RANGE]
    return with_list(let_through(numbers[0], numbers[1], row))


def bucket_call(numbers, row):
    if not are_within(numbers, BUCKET_RANGES) or not are_minutes(row, MOST_MINUTES, GREATEST_MINUTE):
        return [OUT_OF_RANGE]
    return with_list(let_through_by_bucket(numbers[0], numbers[1], row))


def crowd_call(numbers, row):
    if not are_within(numbers, CROWD_RANGES) or not are_minutes(row, MOST_MINUTES, GREATEST_MINUTE):
        return [OUT_OF_RANGE]
    return [0, crowd_of(numbers[0], row)]


def next_call(numbers, row):
    least = numbers[2]
    if not are_within(numbers, NEXT_RANGES) or not are_minutes(row, MOST_MINUTES, least):
        return [OUT_OF_RANGE]
    return [0, first_let_through(numbers[0], numbers[1], least, row)]


def most_call(numbers, row):
    if not are_within(numbers, GATE_RANGES) or not are_minutes(row, MOST_MINUTES_OF_MOST, GREATEST_MINUTE):
        return [OUT_OF_RANGE]
    return [0, most_let_through(numbers[0], numbers[1], row)]


ROW_CALLS = {
    19: ways_call,
    20: depths_call,
    21: best_call,
    22: late_call,
    23: gate_call,
    24: bucket_call,
    25: crowd_call,
    26: next_call,
    27: most_call,
}


def answer_row_call(call, numbers, row):
    return ROW_CALLS[call](numbers, row)
