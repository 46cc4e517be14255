"""Promises 1, 10 and 11: trees, the rows that tell them, and back."""

import itertools
import unittest

from tests.helper import (
    FAR,
    MoorCase,
    all_rows,
    is_whole,
    scattered_order,
    scattered_row,
    scattered_whole_row,
    whole_rows,
    with_wrong_number,
)
from wishmoor.errors import NoRow, NoTree
from wishmoor.trees import row_of, tree_of


def is_tree(parents):
    for knot in range(1, len(parents) + 1):
        for step in range(len(parents)):
            if knot != 0:
                knot = parents[knot - 1]
            if not 0 <= knot <= len(parents):
                return False
        if knot != 0:
            return False
    return True


def small_lists():
    for knots in range(1, 6):
        for parents in all_rows(knots + 1, knots):
            yield parents


def small_trees():
    return [parents for parents in small_lists() if is_tree(parents)]


def small_rows():
    return [row for boats in range(1, 6) for row in whole_rows(boats)]


def scattered_tree(knots, seed):
    order = [knot + 1 for knot in scattered_order(knots, seed)]
    parents = [0] * knots
    for place, step in enumerate(scattered_row(1000, knots, seed + 300)):
        parents[order[place] - 1] = ([0] + order[:place])[step % (place + 1)]
    return parents


def long_rows():
    for boats in (1, 2, 11, 38, 39):
        yield [0] * boats
        yield list(range(boats))
        yield list(range(boats - 1, -1, -1))
        yield [boat // 2 for boat in range(boats)]
        for seed in range(25):
            yield scattered_whole_row(boats, seed)


def long_trees():
    for knots in (1, 2, 11, 38, 39):
        yield [0] * knots
        yield list(range(knots))
        yield list(range(2, knots + 1)) + [0]
        yield [knots] * (knots - 1) + [0]
        yield [knot // 2 for knot in range(knots)]
        for seed in range(25):
            yield scattered_tree(knots, seed)


def tree_by_the_words(row):
    line = [0]
    parents = {}
    for place in range(len(row)):
        for boat, wish in enumerate(row):
            if wish == place:
                parents[boat + 1] = line[place]
                line.append(boat + 1)
    return [parents[knot] for knot in range(1, len(row) + 1)]


class TreeRefusals(MoorCase):
    def test_no_parents(self):
        self.assert_refused(NoTree, row_of, [])

    def test_40_parents_and_more(self):
        for knots in (40, 41, 100):
            self.assert_refused(NoTree, row_of, [0] * knots)
            self.assert_refused(NoTree, row_of, list(range(knots)))

    def test_each_number_of_knots_from_1_to_39_is_taken(self):
        for knots in range(1, 40):
            self.assertEqual(row_of([0] * knots), [0] * knots)
            self.assertEqual(row_of(list(range(knots))), list(range(knots)))

    def test_a_number_that_is_no_knot_at_any_knot(self):
        for knots in (1, 2, 5, 38, 39):
            for parents in ([0] * knots, list(range(knots)), scattered_tree(knots, 4)):
                for wrong in (-1, -2, -knots, -knots - 1, knots + 1, knots + 2, 1000, FAR, -FAR):
                    for row in with_wrong_number(parents, wrong):
                        self.assert_refused(NoTree, row_of, row)

    def test_a_knot_that_is_its_own_parent(self):
        for knots in (1, 2, 5, 39):
            for own in range(1, knots + 1):
                for parents in ([0] * knots, list(range(knots))):
                    parents[own - 1] = own
                    self.assert_refused(NoTree, row_of, parents)

    def test_knots_that_lead_to_one_another_round(self):
        self.assert_refused(NoTree, row_of, [2, 1])
        self.assert_refused(NoTree, row_of, [2, 3, 1])
        self.assert_refused(NoTree, row_of, [0, 3, 2])
        self.assert_refused(NoTree, row_of, [3, 0, 1])
        self.assert_refused(NoTree, row_of, [0, 3, 4, 2, 2])
        self.assert_refused(NoTree, row_of, [2, 1, 1, 3, 0])
        self.assert_refused(NoTree, row_of, list(range(2, 40)) + [1])
        self.assert_refused(NoTree, row_of, [0] * 37 + [39, 38])
        self.assert_refused(NoTree, row_of, [0, 3, 2] + list(range(3, 39)))

    def test_all_small_lists_that_are_no_tree(self):
        for parents in small_lists():
            if not is_tree(parents):
                self.assert_refused(NoTree, row_of, parents)


class RowRefusals(MoorCase):
    def test_no_boat(self):
        self.assert_refused(NoRow, tree_of, [])

    def test_40_boats_and_more(self):
        for boats in (40, 41, 42, 100):
            self.assert_refused(NoRow, tree_of, [0] * boats)
            self.assert_refused(NoRow, tree_of, list(range(boats)))
            self.assert_refused(NoRow, tree_of, [boats - 1] * boats)

    def test_a_wish_that_is_no_place_at_any_boat(self):
        for boats in (1, 2, 5, 38, 39):
            for wrong in (-1, -2, -boats, boats, boats + 1, 1000, FAR, -FAR):
                for row in with_wrong_number([0] * boats, wrong):
                    self.assert_refused(NoRow, tree_of, row)

    def test_rows_that_do_not_moor_whole(self):
        self.assert_refused(NoRow, tree_of, [1, 1])
        self.assert_refused(NoRow, tree_of, [0, 2, 2])
        self.assert_refused(NoRow, tree_of, [1] * 39)
        self.assert_refused(NoRow, tree_of, [0] * 37 + [38, 38])
        self.assert_refused(NoRow, tree_of, [38, 38] + [0] * 37)
        self.assert_refused(NoRow, tree_of, [20] * 20 + [0] * 19)

    def test_all_small_rows_that_do_not(self):
        for boats in range(1, 6):
            for row in all_rows(boats, boats):
                if not is_whole(row):
                    self.assert_refused(NoRow, tree_of, row)


class Telling(MoorCase):
    def test_ordinary_ones(self):
        pairs = (
            ([0], [0]),
            ([0, 0], [0, 0]),
            ([0, 1], [0, 1]),
            ([1, 0], [2, 0]),
            ([0, 2, 0], [0, 3, 0]),
            ([1, 0, 1], [2, 0, 2]),
            ([2, 0, 0], [3, 0, 0]),
            ([2, 0, 1], [3, 0, 2]),
            ([1, 2, 0, 0, 3], [3, 4, 0, 0, 1]),
        )
        for row, parents in pairs:
            with self.subTest(row=row):
                self.assertEqual(tree_of(row), parents)
                self.assertEqual(row_of(parents), row)

    def test_the_lesser_children_join_the_line_first(self):
        self.assertEqual(tree_of([0, 1, 0, 2]), [0, 1, 0, 3])
        self.assertEqual(row_of([0, 3, 0, 1]), [0, 2, 0, 1])

    def test_39_knots(self):
        self.assertEqual(tree_of([0] * 39), [0] * 39)
        self.assertEqual(tree_of(list(range(39))), list(range(39)))
        self.assertEqual(tree_of(list(range(38, -1, -1))), list(range(2, 40)) + [0])
        self.assertEqual(row_of(list(range(2, 40)) + [0]), list(range(38, -1, -1)))

    def test_each_number_of_boats_from_1_to_39_is_taken(self):
        for boats in range(1, 40):
            self.assertEqual(tree_of([0] * boats), [0] * boats)
            self.assertEqual(tree_of(list(range(boats))), list(range(boats)))

    def test_as_the_words_say(self):
        for row in itertools.chain(small_rows(), long_rows()):
            self.assertEqual(tree_of(row), tree_by_the_words(row), row)

    def test_each_row_tells_a_tree_and_the_tree_the_row(self):
        for row in itertools.chain(small_rows(), long_rows()):
            parents = tree_of(row)
            self.assertTrue(is_tree(parents), row)
            self.assertEqual(row_of(parents), row)

    def test_each_tree_is_told_by_a_row_that_moors_whole(self):
        for parents in itertools.chain(small_trees(), long_trees()):
            row = row_of(parents)
            self.assertTrue(is_whole(row), parents)
            self.assertEqual(tree_by_the_words(row), parents)
            self.assertEqual(tree_of(row), parents)

    def test_there_are_as_many_small_trees_as_rows(self):
        told = sorted(tree_of(row) for row in small_rows())
        self.assertEqual(told, sorted(small_trees()))

    def test_kinds_and_names_of_the_interface(self):
        self.assert_list_of_numbers(tree_of(wishes=[0, 2, 0]))
        self.assert_list_of_numbers(row_of(parents=[0, 3, 0]))


class HandedIn(MoorCase):
    def test_the_row_stays_as_it_was(self):
        for row in ([2, 0, 1], [1, 0], [0], [], [1, 1], [2, 0], [-1, 0], [1, 0] * 20):
            self.assert_leaves_row(tree_of, row)

    def test_the_tree_stays_as_it_was(self):
        for parents in ([2, 3, 0], [2, 0], [0], [], [2, 1], [3, 0], [-1, 0], [2, 0] + [1] * 38):
            self.assert_leaves_row(row_of, parents)

    def test_lists_that_are_told_are_new(self):
        for row in ([0, 1, 2], [2, 0, 1], [0, 0], [0]):
            self.assert_tells_new_lists(tree_of, row)
            self.assert_tells_new_lists(row_of, tree_of(row))

    def test_an_answer_hangs_on_what_is_handed_in_alone(self):
        handed = [0, 0]
        self.assertEqual((tree_of(handed), row_of(handed)), ([0, 0], [0, 0]))
        handed[:] = [0, 1]
        self.assertEqual((tree_of(handed), row_of(handed)), ([0, 1], [0, 1]))
        handed[:] = [2, 0]
        self.assertEqual(row_of(handed), [1, 0])
        handed[:] = [1, 0]
        self.assertEqual(tree_of(handed), [2, 0])


if __name__ == "__main__":
    unittest.main()
