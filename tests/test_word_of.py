"""Point 1: the word of a row of numbers."""

import unittest
from itertools import permutations, product

from risefall import words
from risefall.errors import BadRow
from risefall.words import count, word_of

from wrong import Like, Plain, of_every_kind, refused_by

HUGE = 10**40


class Rows(unittest.TestCase):
    def test_letter_by_letter(self):
        told = [
            ([0, 1], "u"), ([1, 0], "d"), ([0, 2, 1], "ud"), ([1, 0, 2], "du"), ([3, 2, 1], "dd"),
            ([1, 2, 3, 4], "uuu"), ([5, 9, 2, 6, 4, 3], "ududd"), ([10, 9, 100, 20], "dud"),
        ]
        for row, word in told:
            self.assertEqual(word_of(row), word)

    def test_a_row_of_one_number_has_the_word_of_no_letter(self):
        for number in (0, 1, -1, 7, HUGE, -HUGE):
            self.assertEqual(word_of([number]), "")

    def test_numbers_of_any_size_also_below_0(self):
        told = [
            ([-1, 0], "u"), ([0, -1], "d"), ([-2, -1], "u"), ([-1, -2], "d"), ([-5, 5, -6], "ud"),
            ([HUGE, HUGE + 1], "u"), ([HUGE + 1, HUGE], "d"), ([-HUGE, -HUGE - 1], "d"),
            ([-HUGE, HUGE, HUGE - 1], "ud"), ([2**53, 2**53 + 1], "u"), ([10**500, -10**500], "d"),
        ]
        for row, word in told:
            self.assertEqual(word_of(row), word)

    def test_numbers_may_stand_more_than_once_but_not_side_by_side(self):
        self.assertEqual(word_of([1, 2, 1, 2, 1]), "udud")
        self.assertEqual(word_of([0, 5, 3, 0]), "udd")

    def test_every_row_of_small_numbers(self):
        for length in range(1, 6):
            for row in product((-2, -1, 0, 1), repeat=length):
                pairs = list(zip(row, row[1:]))
                if any(a == b for a, b in pairs):
                    refused_by(self, BadRow, word_of, list(row))
                else:
                    word = "".join("u" if a < b else "d" for a, b in pairs)
                    self.assertEqual(word_of(list(row)), word)

    def test_as_many_orders_have_a_word_as_are_counted(self):
        for length in range(6):
            found = [word_of(list(order)) for order in permutations(range(length + 1))]
            for word in product("ud", repeat=length):
                self.assertEqual(found.count("".join(word)), count("".join(word)))

    def test_a_row_of_many_numbers(self):
        row = [n * n % 1009 for n in range(5000)]
        row = row[:1] + [b for a, b in zip(row, row[1:]) if a != b]
        word = word_of(row)
        self.assertEqual(len(word), len(row) - 1)
        for place, letter in enumerate(word):
            self.assertEqual(letter, "u" if row[place + 1] > row[place] else "d")

    def test_the_answer_is_a_text(self):
        for row in ([4], [4, 5], [5, 4, 6]):
            self.assertIs(type(word_of(row)), str)

    def test_the_row_stays_as_it_was(self):
        for row in ([3], [3, 1, 2], [HUGE, -HUGE, 0], [5, 4, 9, 9], [1, 1], [2, None, 1], [True], []):
            kept = list(row)
            try:
                word_of(row)
            except BadRow:
                pass
            self.assertEqual(len(row), len(kept))
            for here, before in zip(row, kept):
                self.assertIs(here, before)

    def test_a_row_that_is_changed_later_is_asked_anew(self):
        row = [1, 2]
        self.assertEqual(word_of(row), "u")
        row[0] = 3
        self.assertEqual(word_of(row), "d")
        row.append(9)
        self.assertEqual(word_of(row), "du")

    def test_the_interface_names_the_argument(self):
        self.assertEqual(word_of(row=[2, 1]), "d")
        self.assertEqual((word_of.__module__, words.word_of), ("risefall.words", word_of))


class Refused(unittest.TestCase):
    def refused(self, row):
        refused_by(self, BadRow, word_of, row)

    def test_what_is_no_list_of_whatever_kind(self):
        for value in of_every_kind():
            self.refused(value)

    def test_a_text(self):
        for value in ("", "u", "ud", "12", "1", "[1, 2]"):
            self.refused(value)

    def test_the_empty_list(self):
        self.refused([])

    def test_what_is_no_number_at_whatever_place(self):
        wrong = [True, False, None, "", "1", "u", [], [1], (), (1,), {}, {1: 2}, {1}, b"", b"1",
                 range(2), len, int, Plain(), Like(), Ellipsis]
        for value in wrong:
            for row in ([], [5], [5, 3], [5, 3, 8, -2]):
                for place in range(len(row) + 1):
                    self.refused(row[:place] + [value] + row[place:])

    def test_true_and_false_are_no_numbers_though_they_compare(self):
        for row in ([True], [False], [False, True], [True, False], [0, True], [True, 0],
                    [1, False], [2, True, 2], [-1, False, -1], [True, True], [1, True]):
            self.refused(row)

    def test_a_row_within_itself(self):
        row = [1, 2]
        row.append(row)
        self.refused(row)

    def test_two_alike_neighbours_at_whatever_place(self):
        for row in ([0], [7], [1, 2], [5, 3, 8, -2], [-1, 0, -1]):
            for place in range(len(row)):
                self.refused(row[:place] + [row[place]] + row[place:])

    def test_alike_neighbours_of_any_size(self):
        # Made twice, so that the two are alike without being one object.
        for digits in ("300", "1" + "0" * 40, "-1" + "0" * 40, "-7"):
            self.refused([int(digits), int(digits)])
            self.refused([0, int(digits), int(digits), 0])

    def test_many_alike(self):
        for many in (2, 3, 10, 1000):
            self.refused([4] * many)

    def test_alike_neighbours_far_along(self):
        row = [n % 2 for n in range(1000)]
        self.assertEqual(len(word_of(row)), 999)
        self.refused(row + [row[-1]])


if __name__ == "__main__":
    unittest.main()
