"""Promises 1, 8 and 9: outcomes, the span of each boat, and the ways to an outcome."""

import itertools
import math
import unittest

from tests.helper import FAR, MoorCase, all_rows, scattered_order, with_wrong_number
from wishmoor.errors import NoOutcome
from wishmoor.outcomes import spans, ways
from wishmoor.quays import moored

BOTH = (spans, ways)


def small_outcomes():
    for boats in range(1, 7):
        for places in itertools.permutations(range(boats)):
            yield list(places)


def long_outcomes():
    for boats in (1, 2, 9, 23, 39, 40):
        yield list(range(boats))
        yield list(range(boats - 1, -1, -1))
        yield list(range(0, boats, 2)) + list(range(1, boats, 2))
        yield list(range(1, boats, 2)) + list(range(0, boats, 2))
        yield list(range(boats // 2, boats)) + list(range(boats // 2))
        for seed in range(20):
            yield scattered_order(boats, seed)


def least_wish_by_the_words(places, boat):
    ahead = set(places[:boat])
    own = places[boat]
    return min(wish for wish in range(own + 1) if set(range(wish, own)) <= ahead)


def spans_by_the_words(places):
    return [(least_wish_by_the_words(places, boat), place) for boat, place in enumerate(places)]


class Refusals(MoorCase):
    def test_no_boat(self):
        for call in BOTH:
            self.assert_refused(NoOutcome, call, [])

    def test_41_boats_and_more(self):
        for call in BOTH:
            for boats in (41, 42, 60, 100):
                with self.subTest(call=call.__name__, boats=boats):
                    self.assert_refused(NoOutcome, call, list(range(boats)))
                    self.assert_refused(NoOutcome, call, list(range(boats - 1, -1, -1)))
                    self.assert_refused(NoOutcome, call, [0] * boats)

    def test_each_number_of_boats_from_1_to_40_is_taken(self):
        for boats in range(1, 41):
            falling = list(range(boats - 1, -1, -1))
            self.assertEqual(spans(falling), [(place, place) for place in falling])
            self.assertEqual(ways(falling), 1)

    def test_a_number_that_is_no_place_at_any_boat(self):
        for call in BOTH:
            for boats in (1, 2, 5, 39, 40):
                for places in (list(range(boats)), scattered_order(boats, 3)):
                    for wrong in (-1, -2, -boats, boats, boats + 1, 1000, FAR, -FAR):
                        for row in with_wrong_number(places, wrong):
                            with self.subTest(call=call.__name__, row=row):
                                self.assert_refused(NoOutcome, call, row)

    def test_a_place_told_twice(self):
        for call in BOTH:
            for boats in (2, 3, 6, 40):
                places = scattered_order(boats, 5)
                for twice in (0, boats // 2, boats - 1):
                    for row in with_wrong_number(places, twice):
                        if row != places:
                            with self.subTest(call=call.__name__, row=row):
                                self.assert_refused(NoOutcome, call, row)

    def test_all_small_lists_that_are_no_outcome(self):
        for call in BOTH:
            for boats in range(1, 5):
                for places in itertools.product(range(-1, boats + 1), repeat=boats):
                    if sorted(places) != list(range(boats)):
                        self.assert_refused(NoOutcome, call, list(places))


class Spans(MoorCase):
    def test_ordinary_ones(self):
        self.assertEqual(spans([0]), [(0, 0)])
        self.assertEqual(spans([0, 1]), [(0, 0), (0, 1)])
        self.assertEqual(spans([1, 0]), [(1, 1), (0, 0)])
        self.assertEqual(spans([0, 2, 1]), [(0, 0), (2, 2), (0, 1)])
        self.assertEqual(spans([1, 2, 0]), [(1, 1), (1, 2), (0, 0)])
        self.assertEqual(spans([3, 1, 0, 2]), [(3, 3), (1, 1), (0, 0), (0, 2)])
        self.assertEqual(spans([1, 3, 2, 4, 0]), [(1, 1), (3, 3), (1, 2), (1, 4), (0, 0)])

    def test_rising_and_falling_up_to_40(self):
        for boats in (39, 40):
            self.assertEqual(spans(list(range(boats))), [(0, place) for place in range(boats)])
            falling = list(range(boats - 1, -1, -1))
            self.assertEqual(spans(falling), [(place, place) for place in falling])

    def test_as_the_words_say(self):
        for places in itertools.chain(small_outcomes(), long_outcomes()):
            self.assertEqual(spans(places), spans_by_the_words(places), places)

    def test_just_the_rows_within_the_spans_lead_to_the_outcome(self):
        for boats in range(1, 6):
            leading = {}
            for row in all_rows(boats, boats):
                leading.setdefault(tuple(moored(boats, row)), []).append(tuple(row))
            for places in itertools.permutations(range(boats)):
                within = itertools.product(*[range(least, place + 1) for least, place in spans(list(places))])
                self.assertEqual(sorted(within), sorted(leading[places]), places)
                self.assertEqual(ways(list(places)), len(leading[places]), places)

    def test_the_ends_of_long_spans_lead_to_the_outcome_and_no_wish_beyond_them_does(self):
        for places in long_outcomes():
            boats = len(places)
            told = spans(places)
            least = [span[0] for span in told]
            self.assertEqual([span[1] for span in told], places)
            self.assertEqual(moored(boats, least), places)
            self.assertEqual(moored(boats, places), places)
            for boat in range(boats):
                for wish in (least[boat] - 1, places[boat] + 1):
                    if 0 <= wish < boats:
                        row = least[:boat] + [wish] + least[boat + 1:]
                        self.assertNotEqual(moored(boats, row), places, row)

    def test_kinds_and_names_of_the_interface(self):
        told = spans(places=[1, 2, 0])
        self.assertIs(type(told), list)
        for span in told:
            self.assertIs(type(span), tuple)
            self.assert_list_of_numbers(list(span))
            self.assertEqual(len(span), 2)


class Ways(MoorCase):
    def test_ordinary_ones(self):
        self.assertEqual(ways([0]), 1)
        self.assertEqual(ways([0, 1]), 2)
        self.assertEqual(ways([1, 0]), 1)
        self.assertEqual(ways([0, 2, 1]), 2)
        self.assertEqual(ways([1, 2, 0]), 2)
        self.assertEqual(ways([3, 1, 0, 2]), 3)
        self.assertEqual(ways([1, 3, 2, 4, 0]), 8)

    def test_rising_and_falling_up_to_40(self):
        for boats in range(1, 41):
            self.assertEqual(ways(list(range(boats))), math.factorial(boats))
            self.assertEqual(ways(list(range(boats - 1, -1, -1))), 1)

    def test_as_the_words_say(self):
        for places in itertools.chain(small_outcomes(), long_outcomes()):
            sizes = [place - least + 1 for least, place in spans_by_the_words(places)]
            self.assertEqual(ways(places), math.prod(sizes), places)

    def test_over_all_outcomes_they_are_as_many_as_rows_that_moor_whole(self):
        for boats in range(1, 7):
            together = sum(ways(list(places)) for places in itertools.permutations(range(boats)))
            self.assertEqual(together, (boats + 1) ** (boats - 1))

    def test_kinds_and_names_of_the_interface(self):
        self.assertIs(type(ways(places=[1, 2, 0])), int)


class HandedIn(MoorCase):
    def test_the_outcome_stays_as_it_was(self):
        for call in BOTH:
            for places in ([2, 0, 1], [3, 2, 1, 0], [0], [], [1, 1], [2, 0], [-1, 0], list(range(40, -1, -1))):
                self.assert_leaves_row(call, places)

    def test_lists_that_are_told_are_new(self):
        for places in ([2, 0, 1], [0, 1, 2, 3], [0]):
            self.assert_tells_new_lists(spans, places)

    def test_an_answer_hangs_on_what_is_handed_in_alone(self):
        handed = [0, 1]
        self.assertEqual((spans(handed), ways(handed)), ([(0, 0), (0, 1)], 2))
        handed[:] = [1, 0]
        self.assertEqual((spans(handed), ways(handed)), ([(1, 1), (0, 0)], 1))


if __name__ == "__main__":
    unittest.main()
