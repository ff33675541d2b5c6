"""What the tests of the desk share: lines of calls written call by call."""

import unittest

from caretakers.desk import answers

LEAST = -9223372036854775808
GREATEST = 9223372036854775807

KEYS = (0, 1, 2, 3, 4, 5, 6, 7, 98, 99)

# Behind any line these tell the nodes, the events and now, then the store by what its asks come to.
NODE_PROBES = [[5, number] for number in range(21)] + [[6, 0], [6, 100], [7], [8, 1]]
STORE_PROBES = (
    [[10, key] for key in KEYS]
    + [[13, ask] for ask in range(0, 12, 2)]
    + [[12, key] for key in KEYS]
    + [[10, key] for key in KEYS]
    + [[8, 1000]]
    + [call for key in KEYS for call in ([10, key], [11, key, key])]
    + [[10, key] for key in KEYS]
    + [[8, 999], [10, 99], [8, 1], [10, 98]]
)
PROBES = NODE_PROBES + STORE_PROBES


def joined(rows):
    return [number for row in rows for number in row]


def parted(numbers):
    """The answers one by one, out of a list with each one's length before it."""
    rows = []
    place = 0
    while place < len(numbers):
        size = numbers[place]
        rows.append(numbers[place + 1:place + 1 + size])
        place += 1 + size
    return rows


class DeskCase(unittest.TestCase):
    maxDiff = None

    def answers_to(self, calls):
        told = parted(answers(joined(calls)))
        self.assertEqual(len(told), len(calls))
        return told

    def check_line(self, line):
        """The line is pairs of a call and its whole answer."""
        handed = joined(call for call, answer in line)
        kept = list(handed)
        expected = joined([len(answer)] + answer for call, answer in line)
        given = answers(handed)
        if given != expected:
            told = parted(given)
            self.assertEqual(list(zip([call for call, answer in line], told)), line)
        self.assertEqual(given, expected)
        self.assertEqual(handed, kept)

    def check_refused(self, before, call, refusal):
        """The call behind those before it is refused with this number, and all is as if it had not been made."""
        told = self.answers_to(before + [call] + PROBES)
        self.assertEqual(told[len(before)], [refusal], (before, call))
        without = self.answers_to(before + PROBES)
        self.assertEqual(told[len(before) + 1:], without[len(before):], (before, call))

    def check_taken(self, before, call):
        told = self.answers_to(before + [call])
        self.assertEqual(told[-1][0], 0, (before, call))

    def check_range(self, before, call, place, least, greatest, refusal=-1):
        """The number at this place of the call is taken from least to greatest, and refused beyond."""
        for number in (least, greatest):
            self.check_taken(before, call[:place] + [number] + call[place + 1:])
        for number in (least - 1, greatest + 1, LEAST, LEAST + 1, GREATEST - 1, GREATEST):
            self.check_refused(before, call[:place] + [number] + call[place + 1:], refusal)
