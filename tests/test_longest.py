"""Points 4 and 5: the longest zigzag of a row."""

import subprocess
import sys
import unittest
from itertools import product
from pathlib import Path

from risefall import zigzag
from risefall.answers import Zigzag
from risefall.errors import BadRow
from risefall.zigzag import longest

from by_the_document import as_told, most
from wrong import Like, Plain, of_every_kind, refused_by

TOP = Path(__file__).resolve().parent.parent
HUGE = 10**40


class Rows(unittest.TestCase):
    def right(self, row):
        told = longest(row)
        self.assertIs(told.shows(row), True, row)
        self.assertTrue(as_told(row, told.places, told.cuts), (row, told.places, told.cuts))
        return told

    def test_every_row_of_up_to_6_small_numbers(self):
        for length in range(7):
            for row in map(list, product(range(4), repeat=length)):
                self.assertEqual(len(self.right(row).places), most(row), row)

    def test_rows_of_more_numbers_by_trying_all_choices(self):
        for seed in range(1, 9):
            for size in (2, 3, 5, 50):
                row = [n * n * seed // 3 % size - size // 2 for n in range(10)]
                self.assertEqual(len(self.right(row).places), most(row), row)

    def test_a_row_of_none_and_rows_that_are_all_alike(self):
        told = self.right([])
        self.assertEqual((told.places, told.cuts), ([], []))
        for number in (0, 1, -1, HUGE, -HUGE):
            for many in (1, 2, 3, 100):
                told = self.right([number] * many)
                self.assertEqual((len(told.places), told.cuts), (1, []))

    def test_alike_without_being_one_object(self):
        self.assertEqual(len(self.right([int("1" + "0" * 40) for _ in range(3)]).places), 1)
        row = [int(digits + "0" * 40) for digits in "1122113"]
        self.assertEqual(len(self.right(row).places), 4)

    def test_rows_that_only_rise_or_only_fall(self):
        for row in ([1, 2], [1, 1, 2], [1, 2, 2], [1, 1, 2, 2, 3], list(range(500)), [0] * 50 + [1]):
            for each in (row, row[::-1], [-number for number in row]):
                told = self.right(each)
                self.assertEqual((len(told.places), told.cuts), (2, []), each)

    def test_alike_neighbours_at_each_turn(self):
        told = [
            ([1, 1, 2, 2, 1, 1], 3), ([2, 2, 1, 1, 2], 3), ([1, 2, 2, 3], 2), ([1, 2, 2, 1], 3),
            ([3, 3, 3, 1, 1, 1, 1, 2, 2, 0, 0], 4), ([0, 0, 1, 1, 1, 0, 0, 0, 1], 4), ([1, 0, 0, 1, 1, 2], 3),
        ]
        for row, many in told:
            self.assertEqual(len(self.right(row).places), many, row)

    def test_huge_and_negative_numbers(self):
        told = [
            ([HUGE, HUGE + 1, HUGE], 3), ([-HUGE, -HUGE - 1, -HUGE], 3), ([HUGE, -HUGE, HUGE, -HUGE], 4),
            ([-1, -2, -3, -2, -3], 4), ([2**53, 2**53 + 1, 2**53 + 2], 2), ([10**500, 0, -10**500, 0], 3),
            ([0, -1, HUGE, HUGE, -HUGE, 5], 5),
        ]
        for row, many in told:
            self.assertEqual(len(self.right(row).places), many, row)

    def test_long_runs(self):
        for run in (1, 2, 10, 200):
            row = []
            for turn in range(9):
                step = 1 if turn % 2 == 0 else -1
                row += [step * n + (0 if step > 0 else run) for n in range(run)]
                row += row[-1:] * (turn % 3)
            self.assertEqual(len(self.right(row).places), 10 if run > 1 else 9, run)

    def test_as_many_turns_as_there_are_numbers(self):
        for many in (2, 3, 4, 100, 1001):
            told = self.right([n % 2 for n in range(many)])
            self.assertEqual(told.places, list(range(many)))
            self.assertEqual(told.cuts, list(range(1, many - 1)))

    def test_rows_of_many_numbers_are_answered_soon(self):
        # In a run of its own, so that trying all choices is ended and not waited for.
        asked = (
            "from risefall.zigzag import longest\n"
            "for row in ([n * n % 1009 for n in range(50000)], [0] * 50000, list(range(50000)),\n"
            "            [n % 2 for n in range(50000)]):\n"
            "    assert longest(row).shows(row)\n"
        )
        subprocess.run([sys.executable, "-c", asked], check=True, timeout=60, cwd=TOP)

    def test_the_answer_is_a_zigzag_of_numbers(self):
        for row in ([], [4], [4, 4], [4, 5], [5, 4, 6], [1, 3, 3, 2, 2, 9]):
            told = longest(row)
            self.assertIs(type(told), Zigzag)
            self.assertEqual((type(told.places), type(told.cuts)), (list, list))
            self.assertTrue(all(type(place) is int for place in told.places + told.cuts))

    def test_the_interface_names_the_argument(self):
        self.assertEqual(longest(row=[2, 1]).places, [0, 1])
        self.assertEqual((longest.__module__, zigzag.longest), ("risefall.zigzag", longest))


class NothingKept(unittest.TestCase):
    def test_the_row_stays_as_it_was(self):
        for row in ([], [3], [3, 1, 2], [HUGE, -HUGE, 0], [1, 1], [1, 1, 2, 2, 1], [2, None, 1], [True]):
            kept = list(row)
            try:
                longest(row)
            except BadRow:
                pass
            self.assertEqual(len(row), len(kept))
            for here, before in zip(row, kept):
                self.assertIs(here, before)

    def test_what_is_told_may_be_changed(self):
        for row in ([], [5], [5, 5], [1, 2], [1, 3, 2], [1, 2, 1, 2, 1]):
            first = longest(row)
            kept = (list(first.places), list(first.cuts))
            first.places.append(7)
            first.cuts.append(7)
            again = longest(row)
            self.assertIsNot(again, first)
            self.assertEqual((again.places, again.cuts), kept)
            again.places.clear()
            again.cuts.clear()
            third = longest(row)
            self.assertEqual((third.places, third.cuts), kept)
            self.assertIs(third.shows(row), True)

    def test_the_two_fields_are_two_lists(self):
        for row in ([], [5], [1, 2], [1, 3, 2]):
            told = longest(row)
            self.assertIsNot(told.places, told.cuts)

    def test_a_row_that_is_changed_later_is_asked_anew(self):
        row = [1, 2, 1]
        told = longest(row)
        row[2] = 3
        self.assertIs(told.shows(row), False)
        self.assertEqual(len(told.places), 3)
        self.assertEqual(len(longest(row).places), 2)


class Refused(unittest.TestCase):
    def refused(self, row):
        refused_by(self, BadRow, longest, row)

    def test_what_is_no_list_of_whatever_kind(self):
        for value in of_every_kind():
            self.refused(value)

    def test_texts(self):
        for value in ("", "u", "121", "[1, 2]"):
            self.refused(value)

    def test_what_is_no_number_at_whatever_place(self):
        wrong = [True, False, None, "", "1", "u", [], [1], (), (1,), {}, {1: 2}, {1}, b"", b"1",
                 range(2), len, int, Plain(), Like(), Ellipsis]
        for value in wrong:
            for row in ([], [5], [5, 5], [5, 3], [5, 3, 8, -2]):
                for place in range(len(row) + 1):
                    self.refused(row[:place] + [value] + row[place:])

    def test_true_and_false_are_no_numbers_though_they_compare(self):
        for row in ([True], [False], [0, True], [True, 0], [True, True], [1, True], [1, False, 1],
                    [False, False], [0, False, 0], [5, 3, True, 3]):
            self.refused(row)

    def test_strange_items_that_are_all_alike(self):
        for value in (None, "1", True, [], (1,), Like()):
            self.refused([value] * 3)

    def test_a_row_within_itself(self):
        row = [1, 2]
        row.append(row)
        self.refused(row)


if __name__ == "__main__":
    unittest.main()
