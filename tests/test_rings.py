"""Promises 1, 6 and 7: mooring round the ring, and the luck of a row."""

import itertools
import unittest

from tests.helper import FAR, MoorCase, scattered_row, small_ring_rows, with_wrong_number
from wishmoor.errors import NoRow
from wishmoor.quays import moored
from wishmoor.rings import left_free, luck, ring_moored, turned


def turned_by_nought(wishes):
    return turned(wishes, 0)


def turned_by_three(wishes):
    return turned(wishes, 3)


def turned_far(wishes):
    return turned(wishes, FAR)


ALL = (ring_moored, left_free, luck, turned_by_nought, turned_by_three, turned_far)


def ring_moored_by_the_words(row):
    ring = len(row) + 1
    taken = []
    for wish in row:
        round_the_ring = list(range(wish, ring)) + list(range(wish))
        taken.append([place for place in round_the_ring if place not in taken][0])
    return taken


def moors_whole(row):
    boats = len(row)
    return boats not in row and None not in moored(boats, row)


def long_rows():
    for boats in (1, 2, 8, 20, 38, 39):
        for seed in range(12):
            yield scattered_row(boats + 1, boats, seed)
        for wish in range(boats + 1):
            yield [wish] * boats


class Refusals(MoorCase):
    def test_no_boat(self):
        for call in ALL:
            with self.subTest(call=call.__name__):
                self.assert_refused(NoRow, call, [])

    def test_40_boats_and_more(self):
        for call in ALL:
            for boats in (40, 41, 100):
                with self.subTest(call=call.__name__, boats=boats):
                    self.assert_refused(NoRow, call, [0] * boats)
                    self.assert_refused(NoRow, call, list(range(boats)))

    def test_a_wish_that_is_no_place_of_the_ring_at_any_place_in_the_row(self):
        for call in ALL:
            for boats in (1, 2, 5, 38, 39):
                for wrong in (-1, -2, -boats - 1, boats + 1, boats + 2, 1000, FAR, -FAR):
                    for row in with_wrong_number([0] * boats, wrong):
                        with self.subTest(call=call.__name__, row=row):
                            self.assert_refused(NoRow, call, row)


class RingMooring(MoorCase):
    def test_one_boat(self):
        self.assertEqual(ring_moored([0]), [0])
        self.assertEqual(ring_moored([1]), [1])
        self.assertEqual(left_free([0]), 1)
        self.assertEqual(left_free([1]), 0)

    def test_wishes_that_lead_past_the_last_place(self):
        self.assertEqual(ring_moored([2, 2]), [2, 0])
        self.assertEqual(ring_moored([3, 3, 3]), [3, 0, 1])
        self.assertEqual(ring_moored([3, 0, 3]), [3, 0, 1])
        self.assertEqual(ring_moored([3, 4, 3, 0]), [3, 4, 0, 1])
        self.assertEqual(left_free([2, 2]), 1)
        self.assertEqual(left_free([3, 3, 3]), 2)
        self.assertEqual(left_free([3, 4, 3, 0]), 2)

    def test_wishes_that_do_not(self):
        self.assertEqual(ring_moored([0, 2, 0]), [0, 2, 1])
        self.assertEqual(ring_moored([1, 1, 1]), [1, 2, 3])
        self.assertEqual(left_free([0, 2, 0]), 3)
        self.assertEqual(left_free([1, 1, 1]), 0)

    def test_39_boats(self):
        self.assertEqual(ring_moored([39] * 39), [39] + list(range(38)))
        self.assertEqual(left_free([39] * 39), 38)
        self.assertEqual(ring_moored([0] * 39), list(range(39)))
        self.assertEqual(left_free([0] * 39), 39)
        self.assertEqual(ring_moored([20] * 39), list(range(20, 40)) + list(range(19)))
        self.assertEqual(left_free([20] * 39), 19)

    def test_each_number_of_boats_between_is_taken(self):
        for boats in range(1, 40):
            with self.subTest(boats=boats):
                self.assertEqual(ring_moored([boats] * boats), [boats] + list(range(boats - 1)))
                self.assertEqual(left_free([boats] * boats), boats - 1)
                self.assertEqual(luck([boats] * boats), 1)
                self.assertEqual(turned([boats] * boats, 1), [0] * boats)

    def test_all_rows_as_the_words_say(self):
        for row in itertools.chain(small_ring_rows(), long_rows()):
            self.assertEqual(ring_moored(row), ring_moored_by_the_words(row), row)

    def test_one_place_stays_free(self):
        for row in itertools.chain(small_ring_rows(), long_rows()):
            told = ring_moored(row) + [left_free(row)]
            self.assertEqual(sorted(told), list(range(len(row) + 1)), row)

    def test_kinds_and_names_of_the_interface(self):
        self.assert_list_of_numbers(ring_moored(wishes=[2, 2]))
        self.assertIs(type(left_free(wishes=[2, 2])), int)


class Turning(MoorCase):
    def test_by_nought(self):
        for row in itertools.chain(small_ring_rows(), long_rows()):
            self.assertEqual(turned(row, 0), row)

    def test_onward_and_round(self):
        self.assertEqual(turned([0, 2, 0], 1), [1, 3, 1])
        self.assertEqual(turned([0, 2, 0], 2), [2, 0, 2])
        self.assertEqual(turned([0, 2, 0], 4), [0, 2, 0])
        self.assertEqual(turned([0, 2, 0], 7), [3, 1, 3])
        self.assertEqual(turned([1], 1), [0])
        self.assertEqual(turned([39] * 39, 1), [0] * 39)

    def test_by_numbers_below_nought(self):
        self.assertEqual(turned([0, 2, 0], -1), [3, 1, 3])
        self.assertEqual(turned([0, 2, 0], -4), [0, 2, 0])
        self.assertEqual(turned([0, 2, 0], -6), [2, 0, 2])
        self.assertEqual(turned([0], -1), [1])

    def test_far_beyond_the_ring(self):
        # 10 ** 30 leaves 1 over when told off by threes, and nought by fours.
        self.assertEqual(turned([0, 2], FAR), [1, 0])
        self.assertEqual(turned([0, 2], -FAR), [2, 1])
        self.assertEqual(turned([0, 2], FAR + 1), [2, 1])
        self.assertEqual(turned([0, 2, 1], FAR), [0, 2, 1])
        self.assertEqual(turned([0, 2, 1], -FAR), [0, 2, 1])
        self.assertEqual(turned([0, 2, 1], FAR + 3), [3, 1, 0])

    def test_turned_back(self):
        for row in itertools.chain(small_ring_rows(), long_rows()):
            for by in (1, -1, 2, 5, -17, 40, FAR, -FAR, FAR + 7):
                self.assertEqual(turned(turned(row, by), -by), row, (row, by))

    def test_all_rows_as_the_words_say(self):
        for row in itertools.chain(small_ring_rows(), long_rows()):
            onward = list(row)
            for by in range(1, len(row) + 3):
                onward = [0 if wish == len(row) else wish + 1 for wish in onward]
                self.assertEqual(turned(row, by), onward, (row, by))

    def test_kinds_and_names_of_the_interface(self):
        self.assert_list_of_numbers(turned(wishes=[2, 2], by=-5))


class Luck(MoorCase):
    def test_rows_that_moor_whole_have_luck_nought(self):
        for row in ([0], [0, 0], [0, 1], [1, 0], [0, 2, 0], [0] * 39, list(range(39))):
            self.assertEqual(luck(row), 0, row)

    def test_others(self):
        self.assertEqual(luck([1]), 1)
        self.assertEqual(luck([1, 1]), 2)
        self.assertEqual(luck([2, 2]), 1)
        self.assertEqual(luck([1, 2]), 2)
        self.assertEqual(luck([3, 3, 3]), 1)
        self.assertEqual(luck([1, 1, 1]), 3)
        self.assertEqual(luck([39] * 39), 1)
        self.assertEqual(luck([1] * 39), 39)

    def test_it_is_the_just_one_number_that_makes_the_row_moor_whole(self):
        for row in itertools.chain(small_ring_rows(), long_rows()):
            numbers = [by for by in range(len(row) + 1) if moors_whole(turned(row, by))]
            self.assertEqual(numbers, [luck(row)], row)

    def test_kinds_and_names_of_the_interface(self):
        self.assertIs(type(luck(wishes=[2, 2])), int)


class HandedIn(MoorCase):
    def test_the_row_stays_as_it_was(self):
        for call in ALL:
            for row in ([3, 0, 3], [2, 0, 1], [1], [], [4, 0, 0], [0, -1], [1] * 40):
                self.assert_leaves_row(call, row)

    def test_lists_that_are_told_are_new(self):
        for call in (ring_moored, turned_by_nought, turned_by_three, turned_far):
            for row in ([3, 0, 3], [2, 0, 1], [1]):
                self.assert_tells_new_lists(call, row)

    def test_an_answer_hangs_on_what_is_handed_in_alone(self):
        handed = [0, 0]
        self.assertEqual((ring_moored(handed), left_free(handed), luck(handed)), ([0, 1], 2, 0))
        handed[:] = [2, 2]
        self.assertEqual((ring_moored(handed), left_free(handed), luck(handed)), ([2, 0], 1, 1))
        self.assertEqual(turned(handed, 1), [0, 0])


if __name__ == "__main__":
    unittest.main()
