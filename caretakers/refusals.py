"""The numbers that refuse a call, and the ranges that numbers are held against."""

OUT_OF_RANGE = -1
NOT_THERE = -2
NO_PLACE = -3
WRONG_STATE = -4
WRONG_PARENT = -5
WRONG_SORT = -6
TOO_MUCH = -7

GREATEST_KEY = 99


def is_within(number, least, greatest):
    return least <= number <= greatest


def are_within(numbers, ranges):
    """Whether each number lies in the range (least, greatest) at its own place."""
    for number, ends in zip(numbers, ranges):
        if not is_within(number, ends[0], ends[1]):
            return False
    return True


def is_key(number):
    return is_within(number, 0, GREATEST_KEY)
