"""Promises 1 to 5: mooring along a quay."""

import itertools
import unittest

from tests.helper import FAR, MoorCase, scattered_row, small_quay_rows, with_wrong_number
from wishmoor.errors import NoQuay, NoRow
from wishmoor.quays import crowd, moored

BOTH = (moored, crowd)


def boats_from(place, row):
    return sum(1 for wish in row if wish >= place)


def excess(long, row, place):
    return boats_from(place, row) - (long - place)


def moored_by_the_words(long, row):
    free = set(range(long))
    places = []
    for wish in row:
        place = min((p for p in free if p >= wish), default=None)
        free.discard(place)
        places.append(place)
    return places


def crowd_by_the_words(long, row):
    return max((p for p in range(long) if excess(long, row, p) > 0), default=None)


def long_rows():
    for long in (1, 2, 7, 17, 30, 39, 40):
        for boats in sorted({0, 1, long // 2, long - 1, long}):
            for seed in range(12):
                yield long, scattered_row(long, boats, seed)
        for wish in range(long):
            yield long, [wish] * long


class Lengths(MoorCase):
    def test_1_and_40_are_taken(self):
        self.assertEqual(moored(1, [0]), [0])
        self.assertEqual(moored(1, []), [])
        self.assertEqual(moored(40, [39, 0]), [39, 0])
        self.assertIsNone(crowd(1, [0]))
        self.assertIsNone(crowd(1, []))
        self.assertIsNone(crowd(40, [39, 0]))

    def test_each_length_between_is_taken(self):
        for long in range(1, 41):
            with self.subTest(long=long):
                self.assertEqual(moored(long, [long - 1]), [long - 1])
                self.assertIsNone(crowd(long, [long - 1]))

    def test_another_length_is_refused_whatever_the_row(self):
        rows = ([], [0], [0, 0], [-1], [41], [FAR], [-FAR], [0] * 40, [0] * 41, [0] * 60)
        for call in BOTH:
            for long in (0, -1, -2, -40, 41, 42, 100, FAR, -FAR):
                for row in rows:
                    with self.subTest(call=call.__name__, long=long, row=row):
                        self.assert_refused(NoQuay, call, long, list(row))


class Rows(MoorCase):
    def test_no_boat_is_taken(self):
        for long in range(1, 41):
            self.assertEqual(moored(long, []), [])
            self.assertIsNone(crowd(long, []))

    def test_a_wish_that_is_no_place_is_refused_at_any_place_in_the_row(self):
        for call in BOTH:
            for long in (1, 2, 5, 39, 40):
                for boats in sorted({1, (long + 1) // 2, long}):
                    for wrong in (-1, -2, -long, long, long + 1, 1000, FAR, -FAR):
                        for row in with_wrong_number([0] * boats, wrong):
                            with self.subTest(call=call.__name__, long=long, row=row):
                                self.assert_refused(NoRow, call, long, row)

    def test_a_wrong_wish_is_refused_behind_boats_that_sail_on(self):
        for call in BOTH:
            self.assert_refused(NoRow, call, 4, [3, 3, 3, 4])
            self.assert_refused(NoRow, call, 4, [3, 3, 3, -1])

    def test_more_boats_than_places_are_refused(self):
        for call in BOTH:
            for long in range(1, 41):
                with self.subTest(call=call.__name__, long=long):
                    self.assert_refused(NoRow, call, long, [0] * (long + 1))
                    self.assert_refused(NoRow, call, long, list(range(long)) + [long - 1])
                    self.assert_refused(NoRow, call, long, [0] * (long + 30))

    def test_as_many_boats_as_places_are_taken(self):
        for long in range(1, 41):
            self.assertEqual(moored(long, [0] * long), list(range(long)))
            self.assertIsNone(crowd(long, [0] * long))


class Mooring(MoorCase):
    def test_boats_moor_at_their_wish(self):
        self.assertEqual(moored(3, [2, 0, 1]), [2, 0, 1])
        self.assertEqual(moored(5, [4, 2]), [4, 2])

    def test_boats_moor_behind_their_wish(self):
        self.assertEqual(moored(3, [0, 0, 0]), [0, 1, 2])
        self.assertEqual(moored(3, [0, 2, 0]), [0, 2, 1])
        self.assertEqual(moored(5, [1, 2, 1, 0]), [1, 2, 3, 0])
        self.assertEqual(moored(5, [3, 1, 1, 1]), [3, 1, 2, 4])

    def test_a_boat_without_a_place_sails_on_and_others_come_behind_it(self):
        self.assertEqual(moored(2, [1, 1]), [1, None])
        self.assertEqual(moored(3, [2, 2, 0]), [2, None, 0])
        self.assertEqual(moored(4, [3, 3, 2, 2]), [3, None, 2, None])
        self.assertEqual(moored(4, [2, 2, 2, 0]), [2, 3, None, 0])
        self.assertEqual(moored(5, [4, 4, 3, 4, 0]), [4, None, 3, None, 0])

    def test_long_rows(self):
        self.assertEqual(moored(40, [39] * 40), [39] + [None] * 39)
        self.assertEqual(moored(40, [20] * 30), list(range(20, 40)) + [None] * 10)
        self.assertEqual(moored(40, [20] * 30 + [0] * 10), list(range(20, 40)) + [None] * 10 + list(range(10)))
        backwards = list(range(39, -1, -1))
        self.assertEqual(moored(40, backwards), backwards)

    def test_all_rows_of_small_quays_as_the_words_say(self):
        for long, row in small_quay_rows():
            self.assertEqual(moored(long, row), moored_by_the_words(long, row), (long, row))

    def test_rows_up_to_40_as_the_words_say(self):
        for long, row in long_rows():
            self.assertEqual(moored(long, row), moored_by_the_words(long, row), (long, row))

    def test_kinds_and_names_of_the_interface(self):
        self.assert_list_of_numbers(moored(long=4, wishes=[3, 3, 0]), or_none=True)
        self.assert_list_of_numbers(moored(long=4, wishes=[]))


class Crowds(MoorCase):
    def test_a_row_that_moors_whole_has_none(self):
        self.assertIsNone(crowd(3, [0, 2, 0]))
        self.assertIsNone(crowd(3, [1, 1]))
        self.assertIsNone(crowd(40, list(range(40))))

    def test_the_greatest_place_is_told(self):
        self.assertEqual(crowd(2, [1, 1]), 1)
        self.assertEqual(crowd(3, [1, 1, 1]), 1)
        self.assertEqual(crowd(3, [1, 2, 2]), 2)
        self.assertEqual(crowd(4, [2, 2, 2, 3]), 2)
        self.assertEqual(crowd(6, [1, 1, 1, 4, 4, 4]), 4)
        self.assertEqual(crowd(6, [5, 5, 1, 1, 1, 1]), 5)

    def test_long_rows(self):
        self.assertEqual(crowd(40, [39, 39]), 39)
        self.assertEqual(crowd(40, [20] * 21), 20)
        self.assertIsNone(crowd(40, [20] * 20))
        self.assertEqual(crowd(40, [1] * 40), 1)
        self.assertIsNone(crowd(40, [0] * 40))

    def test_none_just_where_no_boat_sails_on(self):
        for long, row in itertools.chain(small_quay_rows(), long_rows()):
            self.assertEqual(crowd(long, row) is None, None not in moored(long, row), (long, row))

    def test_all_rows_as_the_words_say(self):
        for long, row in itertools.chain(small_quay_rows(), long_rows()):
            self.assertEqual(crowd(long, row), crowd_by_the_words(long, row), (long, row))

    def test_kinds_and_names_of_the_interface(self):
        self.assertIs(type(crowd(long=2, wishes=[1, 1])), int)
        self.assertIsNone(crowd(long=2, wishes=[0, 1]))


class Orders(MoorCase):
    def test_all_orders_take_the_same_places(self):
        for long in range(1, 6):
            for boats in range(long + 1):
                for row in itertools.combinations_with_replacement(range(long), boats):
                    self.check_all_orders(long, row)

    def check_all_orders(self, long, row):
        sail_on = max([0] + [excess(long, row, place) for place in range(long)])
        taken = set(moored(long, list(row))) - {None}
        for order in set(itertools.permutations(row)):
            places = moored(long, list(order))
            self.assertEqual(set(places) - {None}, taken, (long, order))
            self.assertEqual(places.count(None), sail_on, (long, order))
            self.assertEqual(len(places), len(row), (long, order))

    def test_long_rows_backwards_and_sorted(self):
        for long, row in long_rows():
            sail_on = max([0] + [excess(long, row, place) for place in range(long)])
            taken = set(moored(long, row)) - {None}
            for order in (row, row[::-1], sorted(row), sorted(row, reverse=True)):
                places = moored(long, order)
                self.assertEqual(set(places) - {None}, taken, (long, order))
                self.assertEqual(places.count(None), sail_on, (long, order))


class HandedIn(MoorCase):
    def test_the_row_stays_as_it_was(self):
        for call in BOTH:
            for row in ([], [3, 0, 3, 1], [2, 0, 1], [3, 3, 3, 3], [0, 4], [-1, 0], [0] * 5):
                self.assert_leaves_row(lambda wishes: call(4, wishes), row)
            self.assert_leaves_row(lambda wishes: call(0, wishes), [2, 1])

    def test_lists_that_are_told_are_new(self):
        for row in ([3, 0, 3, 1], [2, 0, 1], [0]):
            self.assert_tells_new_lists(lambda wishes: moored(4, wishes), row)

    def test_an_empty_list_that_is_told_is_new(self):
        handed = []
        told = moored(4, handed)
        told.append(5)
        self.assertEqual(handed, [])
        self.assertEqual(moored(4, []), [])
        self.assertEqual(moored(4, handed), [])

    def test_an_answer_hangs_on_what_is_handed_in_alone(self):
        handed = [0, 0]
        self.assertEqual(moored(2, handed), [0, 1])
        self.assertIsNone(crowd(2, handed))
        handed[:] = [1, 1]
        self.assertEqual(moored(2, handed), [1, None])
        self.assertEqual(crowd(2, handed), 1)
        self.assertEqual(moored(3, handed), [1, 2])
        self.assertIsNone(crowd(3, handed))


if __name__ == "__main__":
    unittest.main()
