"""What the tests of the desk share: lines of calls written call by call."""

import unittest

from caretakers.desk import answers

LEAST = -9223372036854775808
GREATEST = 9223372036854775807

KEYS = (0, 1, 2, 3, 4, 5, 6, 7, 98, 99)

# A line that leaves nodes, events, an answer kept, works under way, one of them forgotten, and faults behind it.
RICH = [
    [0, -1, 0, 3, 10, 0], [1, 0, 0], [2, 0], [3, 1, 1],
    [9, 3, 20, 1, 5, 50], [8, 4], [10, 1], [11, 1, 5], [10, 2], [12, 2], [10, 3], [10, 3], [10, 1], [10, 2], [10, 4],
    [14, 3],
]

# Behind any line these tell the nodes, the events and now, then the store, also by what its asks come to.
NODE_PROBES = [[5, number] for number in range(21)] + [[6, 0], [6, 100], [7], [8, 1]]
STORE_PROBES = (
    [[18], [15], [16]]
    + [[17, key] for key in KEYS]
    + [[10, key] for key in KEYS]
    + [[13, ask] for ask in range(0, 12, 2)]
    + [[12, key] for key in KEYS]
    + [[10, key] for key in KEYS]
    + [[8, 1000]]
    + [call for key in KEYS for call in ([10, key], [11, key, key])]
    + [[10, key] for key in KEYS]
    + [[8, 999], [10, 99], [8, 1], [10, 98]]
)
PROBES = NODE_PROBES + STORE_PROBES


def joined(rows):
    return [number for row in rows for number in row]


def parted(numbers):
    """The answers one by one, out of a list with each one's length before it."""
    rows = []
    place = 0
    while place < len(numbers):
        size = numbers[place]
        rows.append(numbers[place + 1:place + 1 + size])
        place += 1 + size
    return rows


class DeskCase(unittest.TestCase):
    maxDiff = None

    def answers_to(self, calls):
        told = parted(answers(joined(calls)))
        self.assertEqual(len(told), len(calls))
        return told

    def check_line(self, line):
        """The line is pairs of a call and its whole answer."""
        handed = joined(call for call, answer in line)
        kept = list(handed)
        expected = joined([len(answer)] + answer for call, answer in line)
        given = answers(handed)
        if given != expected:
            told = parted(given)
            self.assertEqual(list(zip([call for call, answer in line], told)), line)
        self.assertEqual(given, expected)
        self.assertEqual(handed, kept)

    def check_refused(self, before, call, refusal):
        """The call behind those before it is refused with this number, and all is as if it had not been made."""
        told = self.answers_to(before + [call] + PROBES)
        self.assertEqual(told[len(before)], [refusal], (before, call))
        without = self.answers_to(before + PROBES)
        self.assertEqual(told[len(before) + 1:], without[len(before):], (before, call))

    def check_changes_nothing(self, before, call):
        """The call is taken, and all is as if it had not been made."""
        told = self.answers_to(before + [call] + PROBES)
        self.assertEqual(told[len(before)][0], 0, (before, call))
        without = self.answers_to(before + PROBES)
        self.assertEqual(told[len(before) + 1:], without[len(before):], (before, call))

    def check_taken(self, before, call):
        told = self.answers_to(before + [call])
        self.assertEqual(told[-1][0], 0, (before, call))

    def check_range(self, before, call, place, least, greatest, refusal=-1):
        """The number at this place of the call is taken from least to greatest, and refused beyond."""
        for number in (least, greatest):
            self.check_taken(before, call[:place] + [number] + call[place + 1:])
        for number in (least - 1, greatest + 1, LEAST, LEAST + 1, GREATEST - 1, GREATEST):
            self.check_refused(before, call[:place] + [number] + call[place + 1:], refusal)

    def check_row_lengths(self, call, most, number):
        """A row of this number is taken up to the most long, and refused beyond; the call is told without its row."""
        for length in (0, 1, most):
            self.check_changes_nothing(RICH, call + [length] + [number] * length)
        for length in (most + 1, 199, 200):
            self.check_refused(RICH, call + [length] + [number] * length, -1)

    def check_row_numbers(self, call, least, greatest):
        """Each number of a row is from the least to the greatest; the call is told without its row."""
        for number in (least, greatest):
            self.check_changes_nothing(RICH, call + [1, number])
        self.check_taken([], call + [3, least, least, greatest])
        for number in (least - 1, greatest + 1, LEAST, LEAST + 1, GREATEST - 1, GREATEST):
            self.check_refused(RICH, call + [1, number], -1)
            self.check_refused([], call + [3, number, least, greatest], -1)
            self.check_refused([], call + [3, least, number, greatest], -1)
            self.check_refused([], call + [3, least, greatest, number], -1)
