"""What several test files need: rows to walk through, and what a refusal must be."""

import itertools
import unittest

from wishmoor import errors

FAR = 10 ** 30

REFUSALS = (
    errors.NoQuay,
    errors.NoRow,
    errors.NoOutcome,
    errors.NoTree,
    errors.NoRank,
    errors.NoNote,
)


def all_rows(places, boats):
    return [list(row) for row in itertools.product(range(places), repeat=boats)]


def small_quay_rows():
    for long in range(1, 6):
        for boats in range(long + 1):
            for row in all_rows(long, boats):
                yield long, row


def small_ring_rows():
    for boats in range(1, 6):
        for row in all_rows(boats + 1, boats):
            yield row


def scattered_row(places, boats, seed):
    row = []
    state = seed * 7919 + 11
    while len(row) < boats:
        state = (state * 1103515245 + 12345) % 2 ** 31
        row.append((state >> 8) % places)
    return row


def scattered_order(boats, seed):
    keys = scattered_row(10 ** 6, boats, seed)
    return sorted(range(boats), key=lambda boat: (keys[boat], boat))


def is_whole(row):
    """Whether the row moors whole on a quay with as many places as boats: by its wishes alone, not by mooring."""
    return all(0 <= wish <= place for place, wish in enumerate(sorted(row)))


def whole_rows(boats):
    return [row for row in all_rows(boats, boats) if is_whole(row)]


def scattered_whole_row(boats, seed):
    """Each boat wishes for a place of its own or one ahead of it, so all find a place."""
    steps = scattered_row(1000, boats, seed + 500)
    return [step % (place + 1) for step, place in zip(steps, scattered_order(boats, seed))]


def with_wrong_number(row, wrong):
    """The row with one number exchanged for a wrong one, for each boat in turn."""
    return [row[:boat] + [wrong] + row[boat + 1:] for boat in range(len(row))]


class MoorCase(unittest.TestCase):
    def assert_refused(self, refusal, call, *args):
        try:
            answer = call(*args)
        except Exception as error:
            caught = error
        else:
            self.fail(f"{call.__name__}{args!r} was not refused but told {answer!r}")
        self.assertIsInstance(caught, refusal)
        self.assertIsInstance(caught, errors.MoorError)
        self.assertIsInstance(caught, ValueError)
        for other in REFUSALS:
            if other is not refusal:
                self.assertNotIsInstance(caught, other)

    def assert_list_of_numbers(self, told, or_none=False):
        self.assertIs(type(told), list)
        for value in told:
            if not (or_none and value is None):
                self.assertIs(type(value), int)

    def assert_leaves_row(self, call, row):
        """What is handed in stays as it was, also where it is refused."""
        handed = list(row)
        try:
            call(handed)
        except errors.MoorError:
            pass
        self.assertEqual(handed, row)

    def assert_tells_new_lists(self, call, row):
        handed = list(row)
        first = call(handed)
        kept = list(first)
        self.assertIsNot(first, handed)
        second = call(handed)
        self.assertIsNot(second, first)
        first.append(77)
        first[0] = 99
        self.assertEqual(second, kept)
        self.assertEqual(handed, row)
        self.assertEqual(call(handed), kept)
