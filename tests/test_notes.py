"""Promises 1, 2 and 13: rows as texts."""

import itertools
import re
import unittest

from tests.helper import FAR, MoorCase, scattered_row, small_quay_rows, with_wrong_number
from wishmoor.errors import NoNote, NoQuay, NoRow
from wishmoor.notes import read, shown

SIGNS = "\t\n" + "".join(chr(code) for code in range(32, 127) if chr(code) != "%")
MAKE = re.compile("(0|[1-9][0-9]?):(?: (?:0|[1-9][0-9]?))*")


def long_rows():
    for long in range(1, 41):
        for boats in sorted({0, 1, long // 2, long}):
            for seed in range(3):
                yield long, scattered_row(long, boats, seed)
        yield long, list(range(long))


def refusal_by_the_words(text):
    """The class with which a text is refused, or None where it is read."""
    if MAKE.fullmatch(text) is None:
        return NoNote
    numbers = [int(figures) for figures in re.findall("[0-9]+", text)]
    long, wishes = numbers[0], numbers[1:]
    if not 1 <= long <= 40:
        return NoQuay
    if len(wishes) > long or any(wish >= long for wish in wishes):
        return NoRow
    return None


class Writing(MoorCase):
    def test_ordinary_ones(self):
        self.assertEqual(shown(3, [0, 2, 0]), "3: 0 2 0")
        self.assertEqual(shown(3, []), "3:")
        self.assertEqual(shown(1, [0]), "1: 0")
        self.assertEqual(shown(40, [39, 0, 10]), "40: 39 0 10")
        self.assertEqual(shown(12, [11, 9, 1]), "12: 11 9 1")

    def test_rows_that_do_not_moor_whole_are_written_too(self):
        self.assertEqual(shown(2, [1, 1]), "2: 1 1")

    def test_all_lengths_without_a_boat(self):
        for long in range(1, 41):
            self.assertEqual(shown(long, []), str(long) + ":")
            self.assertEqual(read(str(long) + ":"), (long, []))

    def test_what_is_written_is_read_to_the_same(self):
        for long, row in itertools.chain(small_quay_rows(), long_rows()):
            text = shown(long, row)
            self.assertEqual(text, " ".join([str(long) + ":"] + [str(wish) for wish in row]))
            self.assertEqual(read(text), (long, row))

    def test_another_length_is_refused_whatever_the_row(self):
        for long in (0, -1, -40, 41, 42, 99, 100, FAR, -FAR):
            for row in ([], [0], [-1], [41], [FAR], [-FAR], [0] * 41, [0] * 100):
                self.assert_refused(NoQuay, shown, long, row)

    def test_a_wish_that_is_no_place_is_refused_at_any_boat(self):
        for long in (1, 2, 5, 39, 40):
            for wrong in (-1, -2, -long, long, long + 1, 1000, FAR, -FAR):
                for row in with_wrong_number([0] * long, wrong):
                    self.assert_refused(NoRow, shown, long, row)

    def test_more_boats_than_places_are_refused(self):
        for long in range(1, 41):
            self.assert_refused(NoRow, shown, long, [0] * (long + 1))
            self.assert_refused(NoRow, shown, long, [0] * (long + 30))

    def test_kinds_and_names_of_the_interface(self):
        self.assertIs(type(shown(long=3, wishes=[0, 2, 0])), str)
        self.assertIs(type(shown(long=3, wishes=[])), str)


class Reading(MoorCase):
    def test_ordinary_ones(self):
        self.assertEqual(read("3: 0 2 0"), (3, [0, 2, 0]))
        self.assertEqual(read("3:"), (3, []))
        self.assertEqual(read("1: 0"), (1, [0]))
        self.assertEqual(read("2: 1 1"), (2, [1, 1]))
        self.assertEqual(read("40: 39 0 10"), (40, [39, 0, 10]))
        self.assertEqual(read("40:" + " 39" * 40), (40, [39] * 40))

    def test_kinds_and_names_of_the_interface(self):
        for text in ("3: 0 2 0", "3:"):
            told = read(text=text)
            self.assertIs(type(told), tuple)
            self.assertEqual(len(told), 2)
            self.assertIs(type(told[0]), int)
            self.assert_list_of_numbers(told[1])

    def test_no_colon_or_two(self):
        for text in ("3", "3 0 2 0", "0", "3;", "3; 0", "3::", "3:: 0", "3: 0: 2", "3: 0 2:", ":3:", "3:3: 0"):
            self.assert_refused(NoNote, read, text)

    def test_a_blank_ahead_of_the_colon_or_none_behind_it(self):
        for text in ("3 :", "3 : 0", " 3:", " 3: 0", "3:0", "3:0 2 0", " :", " : 0"):
            self.assert_refused(NoNote, read, text)

    def test_blanks_too_many(self):
        for text in ("3: ", "3:  ", "3:  0", "3: 0  2", "3: 0 2 ", "3: 0 2  ", "3: 0 2 0 "):
            self.assert_refused(NoNote, read, text)

    def test_another_sign_for_a_blank(self):
        for text in ("3:\t0", "3:\t0\t2", "3: 0\t2", "3:\n0", "3: 0\n2"):
            self.assert_refused(NoNote, read, text)
        for text in ("3:,0", "3: 0,2", "3: 0, 2", "3: 0.2", "3: 0_1"):
            self.assert_refused(NoNote, read, text)

    def test_a_nought_ahead(self):
        for text in ("03:", "03: 0", "00:", "003:"):
            self.assert_refused(NoNote, read, text)
        for text in ("3: 00", "3: 01", "3: 0 02", "3: 02 0", "40: 09", "3: 000", "3: 001"):
            self.assert_refused(NoNote, read, text)

    def test_three_figures_or_more(self):
        for text in ("100:", "100: 0", "999:", "1000:", "9" * 30 + ":"):
            self.assert_refused(NoNote, read, text)
        for text in ("3: 100", "3: 0 999 0", "3: 0 100", "3: 1000", "3: " + "9" * 30):
            self.assert_refused(NoNote, read, text)
        # So many figures that Python itself would not turn them into a number.
        self.assert_refused(NoNote, read, "9" * 6000 + ":")
        self.assert_refused(NoNote, read, "3: " + "9" * 6000)

    def test_a_sign_or_a_letter(self):
        for text in ("+3:", "-3:", "3: -1", "3: +1", "3: -0", "3: 0 - 2"):
            self.assert_refused(NoNote, read, text)
        for text in ("a:", "3a:", "x3: 0", "3: a", "3: 1a", "3: a1"):
            self.assert_refused(NoNote, read, text)
        for text in ("3: 0 2 O", "3: l", "1e:", "3: 1e", "0x: 0", "3: 0x", "3: 1_", "3: _1", "3: 1.", "3: .1"):
            self.assert_refused(NoNote, read, text)

    def test_nothing_in_the_length_s_place_or_at_all(self):
        for text in ("", ":", ": 0", ":: 0", " ", "\n", "\t", "  ", ": "):
            self.assert_refused(NoNote, read, text)

    def test_a_tab_or_a_line_end_anywhere(self):
        for text in ("3: 0 2 0", "3:", "12: 11 0", "40: 39", "0:", "3: 9"):
            for place in range(len(text) + 1):
                for sign in ("\t", "\n", "\n\n", " \n", "\t "):
                    self.assert_refused(NoNote, read, text[:place] + sign + text[place:])

    def test_a_length_that_is_none(self):
        for long in [0] + list(range(41, 100)):
            for wishes in ("", " 0", " 0 0", " 40", " 99", " 0" * 41, " 99" * 100):
                self.assert_refused(NoQuay, read, str(long) + ":" + wishes)

    def test_a_wish_that_is_no_place(self):
        for long in range(1, 41):
            for wrong in sorted({long, long + 1, 99}):
                self.assert_refused(NoRow, read, f"{long}: {wrong}")
                for row in with_wrong_number([0] * long, wrong):
                    self.assert_refused(NoRow, read, " ".join([f"{long}:"] + [str(wish) for wish in row]))

    def test_too_many_boats(self):
        for long in range(1, 41):
            self.assert_refused(NoRow, read, f"{long}:" + " 0" * (long + 1))
            self.assert_refused(NoRow, read, f"{long}:" + " 0" * (long + 60))

    def test_where_the_make_is_bad_the_numbers_do_not_matter(self):
        for text in ("0: ", "0:0", "0: 00", "0: 0 ", "99: 0,1", "41: 100", "0: x", "99:\n", "0 :", "41", "0: 1: 2"):
            self.assert_refused(NoNote, read, text)
        for text in ("3: 3 ", "3: 9 x", "3: 9 00", "3: 0 0 0 0 ", "3: 0 0 0 0\n", "3: 99 100", "3: 0 0 0 0 0 01"):
            self.assert_refused(NoNote, read, text)

    def test_all_short_texts_of_a_few_signs(self):
        for length in range(6):
            for signs in itertools.product("013: \n-a", repeat=length):
                self.check_by_the_words("".join(signs))

    def test_each_sign_at_each_place(self):
        for text in ("12: 3 10 0", "4: 0 3", "7:", "40: 39"):
            for place in range(len(text) + 1):
                for sign in SIGNS:
                    self.check_by_the_words(text[:place] + sign + text[place:])
                    self.check_by_the_words(text[:place] + sign + text[place + 1:])
                self.check_by_the_words(text[:place] + text[place + 1:])

    def check_by_the_words(self, text):
        refusal = refusal_by_the_words(text)
        if refusal is None:
            long, wishes = read(text)
            self.assertEqual(shown(long, wishes), text)
        else:
            self.assert_refused(refusal, read, text)


class HandedIn(MoorCase):
    def test_the_row_stays_as_it_was(self):
        for row in ([], [3, 0, 3, 1], [2, 0, 1], [0, 4], [-1, 0], [0] * 5):
            self.assert_leaves_row(lambda wishes: shown(4, wishes), row)
        self.assert_leaves_row(lambda wishes: shown(0, wishes), [2, 1])

    def test_lists_that_are_told_are_new(self):
        for text in ("3: 0 2 0", "3:"):
            first = read(text)[1]
            kept = list(first)
            second = read(text)[1]
            first.append(77)
            first[0] = 99
            self.assertEqual(second, kept)
            self.assertEqual(read(text)[1], kept)

    def test_an_answer_hangs_on_what_is_handed_in_alone(self):
        handed = [0, 0]
        self.assertEqual(shown(3, handed), "3: 0 0")
        handed[:] = [2]
        self.assertEqual(shown(3, handed), "3: 2")
        self.assertEqual(shown(4, handed), "4: 2")


if __name__ == "__main__":
    unittest.main()
