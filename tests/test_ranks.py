"""Promises 1 and 12: the rows that moor whole, in order."""

import unittest

from tests.helper import FAR, MoorCase, all_rows, is_whole, scattered_row, whole_rows, with_wrong_number
from wishmoor.errors import NoRank, NoRow
from wishmoor.quays import moored
from wishmoor.ranks import many, rank_of, row_at

HOW_MANY = {1: 1, 2: 3, 3: 16, 4: 125, 5: 1296, 6: 16807, 7: 262144}
NO_NUMBERS_OF_BOATS = (0, -1, -2, -7, 8, 9, 40, 100, FAR, -FAR)


def some_ranks(boats):
    last = HOW_MANY[boats] - 1
    first_ones = [0, 1, 2, 3, 10]
    last_ones = [last - 10, last - 2, last - 1, last]
    return sorted(set(first_ones + last_ones + scattered_row(last, 60, boats)))


class HowMany(MoorCase):
    def test_one_to_seven_boats(self):
        for boats, rows in HOW_MANY.items():
            self.assertEqual(many(boats), rows)

    def test_as_many_as_there_are_rows(self):
        for boats in range(1, 7):
            self.assertEqual(many(boats), len(whole_rows(boats)))

    def test_another_number_of_boats_is_refused(self):
        for boats in NO_NUMBERS_OF_BOATS:
            self.assert_refused(NoRow, many, boats)

    def test_kinds_and_names_of_the_interface(self):
        for boats in HOW_MANY:
            self.assertIs(type(many(boats=boats)), int)


class InOrder(MoorCase):
    def test_ordinary_ones(self):
        self.assertEqual(row_at(1, 0), [0])
        self.assertEqual([row_at(2, rank) for rank in range(3)], [[0, 0], [0, 1], [1, 0]])
        self.assertEqual(row_at(3, 0), [0, 0, 0])
        self.assertEqual(row_at(3, 5), [0, 1, 2])
        self.assertEqual(row_at(3, 6), [0, 2, 0])
        self.assertEqual(row_at(3, 15), [2, 1, 0])
        self.assertEqual(rank_of([0]), 0)
        self.assertEqual(rank_of([1, 0]), 2)
        self.assertEqual(rank_of([0, 2, 0]), 6)
        self.assertEqual(rank_of([2, 1, 0]), 15)

    def test_the_first_and_the_last_row(self):
        for boats, rows in HOW_MANY.items():
            self.assertEqual(row_at(boats, 0), [0] * boats)
            self.assertEqual(row_at(boats, rows - 1), list(range(boats - 1, -1, -1)))
            self.assertEqual(rank_of([0] * boats), 0)
            self.assertEqual(rank_of(list(range(boats - 1, -1, -1))), rows - 1)

    def test_all_rows_of_one_to_five_boats(self):
        for boats in range(1, 6):
            rows = sorted(whole_rows(boats))
            self.assertEqual([row_at(boats, rank) for rank in range(many(boats))], rows)
            self.assertEqual([rank_of(row) for row in rows], list(range(len(rows))))
            for row in rows:
                self.assertNotIn(None, moored(boats, row))

    def test_some_rows_of_six_and_seven_boats(self):
        for boats in (6, 7):
            rows = sorted(whole_rows(boats))
            for rank in some_ranks(boats):
                self.assertEqual(row_at(boats, rank), rows[rank], (boats, rank))
                self.assertEqual(rank_of(rows[rank]), rank, (boats, rank))

    def test_kinds_and_names_of_the_interface(self):
        self.assert_list_of_numbers(row_at(boats=3, rank=7))
        self.assertIs(type(rank_of(wishes=[0, 2, 0])), int)


class RankRefusals(MoorCase):
    def test_a_rank_that_is_none(self):
        for boats, rows in HOW_MANY.items():
            for rank in (-1, -2, -rows, rows, rows + 1, 10 ** 7, FAR, -FAR):
                with self.subTest(boats=boats, rank=rank):
                    self.assert_refused(NoRank, row_at, boats, rank)

    def test_another_number_of_boats_goes_ahead_whatever_the_rank(self):
        for boats in NO_NUMBERS_OF_BOATS:
            for rank in (0, 1, -1, 262143, 262144, FAR, -FAR):
                with self.subTest(boats=boats, rank=rank):
                    self.assert_refused(NoRow, row_at, boats, rank)


class RowRefusals(MoorCase):
    def test_another_number_of_boats(self):
        for boats in (0, 8, 9, 39, 40, 41, 100):
            self.assert_refused(NoRow, rank_of, [0] * boats)
            self.assert_refused(NoRow, rank_of, list(range(boats)))

    def test_a_wish_that_is_no_place_at_any_boat(self):
        for boats in range(1, 8):
            for wrong in (-1, -2, -boats, boats, boats + 1, 1000, FAR, -FAR):
                for row in with_wrong_number([0] * boats, wrong):
                    self.assert_refused(NoRow, rank_of, row)

    def test_rows_that_do_not_moor_whole(self):
        self.assert_refused(NoRow, rank_of, [1, 1])
        self.assert_refused(NoRow, rank_of, [0, 2, 2])
        self.assert_refused(NoRow, rank_of, [1] * 7)
        self.assert_refused(NoRow, rank_of, [6, 6, 0, 0, 0, 0, 0])
        self.assert_refused(NoRow, rank_of, [0, 0, 0, 4, 4, 4, 4])

    def test_all_small_rows_that_do_not(self):
        for boats in range(1, 6):
            for row in all_rows(boats, boats):
                if not is_whole(row):
                    self.assert_refused(NoRow, rank_of, row)


class HandedIn(MoorCase):
    def test_the_row_stays_as_it_was(self):
        for row in ([2, 0, 1], [1, 0], [0], [], [1, 1], [2, 0], [-1, 0], [7, 0, 1, 0, 1, 0, 1, 0]):
            self.assert_leaves_row(rank_of, row)

    def test_lists_that_are_told_are_new(self):
        for boats, rank in ((1, 0), (3, 6), (7, 0), (7, 1000)):
            first = row_at(boats, rank)
            kept = list(first)
            second = row_at(boats, rank)
            first.append(77)
            first[0] = 99
            self.assertEqual(second, kept)
            self.assertEqual(row_at(boats, rank), kept)

    def test_an_answer_hangs_on_what_is_handed_in_alone(self):
        handed = [0, 1]
        self.assertEqual(rank_of(handed), 1)
        handed[:] = [1, 0]
        self.assertEqual(rank_of(handed), 2)


if __name__ == "__main__":
    unittest.main()
