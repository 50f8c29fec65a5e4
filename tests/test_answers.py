"""Points 4 and 5: whether a Zigzag made by hand shows what is asked of it."""

import unittest
from itertools import product

from risefall import answers
from risefall.answers import Zigzag
from risefall.zigzag import longest

from by_the_document import as_told, choices

HUGE = 10**40
# A row of six turns, with alike neighbours at its ends and at a turn.
ROW = [4, 4, 1, 0, 7, 7, 3, 9, 8, 8, -2, -1, -1]
PLACES = [0, 3, 4, 6, 7, 10, 12]
CUTS = [3, 5, 6, 7, 10]


def lists_of(numbers, most):
    """All lists of up to so many of the numbers, also twice and turned about."""
    return [list(found) for many in range(most + 1) for found in product(numbers, repeat=many)]


class Shows(unittest.TestCase):
    def tells(self, truth, row, places, cuts):
        told = Zigzag(places, cuts).shows(row)
        self.assertIs(told, truth, (row, places, cuts))

    def test_right_ones(self):
        told = [
            ([], [], []), ([5], [0], []), ([5, 5, 5], [0], []), ([5, 5, 5], [1], []),
            ([5, 5, 5], [2], []), ([1, 2], [0, 1], []), ([2, 1], [0, 1], []),
            ([1, 1, 2, 2], [0, 2], []), ([1, 1, 2, 2], [1, 3], []), ([1, 2, 3], [0, 1], []),
            ([3, 2, 1], [1, 2], []), ([1, 3, 2], [0, 1, 2], [1]), ([3, 1, 1, 2], [0, 1, 3], [2]),
            ([3, 1, 1, 2], [0, 2, 3], [1]), ([0, 1, 0, 1], [0, 1, 2, 3], [1, 2]),
            ([-HUGE, HUGE, HUGE - 1, HUGE], [0, 1, 2, 3], [1, 2]), (ROW, PLACES, CUTS),
        ]
        for row, places, cuts in told:
            self.tells(True, row, places, cuts)

    def test_wrong_ones(self):
        told = [
            ([], [0], []), ([], [], [0]), ([], [-1], []), ([], [0, 1], []), ([], [0, 1], [0]),
            ([5], [], []), ([5], [0], [0]), ([5], [-1], []), ([5], [1], []), ([5], [0, 0], []),
            ([5, 5], [], []), ([5, 5], [0, 1], []), ([5, 5], [0], [1]), ([5, 5], [2], []),
            ([5, 5], [0, 1, 0], [1]), ([1, 2], [], []), ([1, 2], [0], []), ([1, 2], [1, 0], []),
            ([1, 2], [0, 1], [0]), ([1, 2], [0, 1], [1]), ([1, 2], [0, 2], []), ([1, 2], [-2, -1], []),
            ([1, 2], [0, -1], []), ([1, 1, 2], [0, 1], []), ([1, 3, 2], [0, 2], []),
            ([1, 3, 2], [0, 1, 2], []), ([1, 3, 2], [0, 1, 2], [0]), ([1, 3, 2], [0, 1, 2], [2]),
            ([1, 3, 2], [0, 1, 2], [-2]), ([1, 3, 2], [0, 1, 2], [4]), ([1, 3, 2], [0, 1, -1], [1]),
            ([1, 2, 3], [0, 1, 2], [1]), ([1, 2, 1, 2], [0, 1, 2], [1]),
            ([1, 2, 1, 2], [0, 1, 2, 3], [2, 1]), ([1, 2, 1, 2], [0, 1, 2, 3], [1, 1]),
            ([1, 2, 1, 2], [0, 1, 2, 3], [-3, -2]), ([1, 2], [0, HUGE], []), ([1, 2], [-HUGE, 1], []),
            ([1, 2], [], [0, 1]), ([5, 5], [], [0, 1]),
        ]
        for row, places, cuts in told:
            self.tells(False, row, places, cuts)

    def test_every_short_list_of_small_rows(self):
        for length in range(4):
            numbers = range(-1, length + 1)
            places_tried, cuts_tried = lists_of(numbers, 3), lists_of(numbers, 2)
            for row in product((0, 1, 2), repeat=length):
                for places in places_tried:
                    for cuts in cuts_tried:
                        truth = as_told(list(row), places, cuts)
                        if Zigzag(places, cuts).shows(list(row)) is not truth:
                            self.fail((row, places, cuts))

    def test_every_choice_of_places_and_cuts_of_rows(self):
        for length in range(6):
            for row in map(list, product((-1, 0, 1), repeat=length)):
                tried = list(choices(row))
                for places in tried:
                    for cuts in tried:
                        if Zigzag(places, cuts).shows(row) is not as_told(row, places, cuts):
                            self.fail((row, places, cuts))

    def test_a_place_or_a_cut_moved_left_out_or_put_in(self):
        wrong = range(-len(ROW) - 2, len(ROW) + 3)
        for at in range(len(PLACES)):
            self.tells(False, ROW, PLACES[:at] + PLACES[at + 1:], CUTS)
            for place in wrong:
                moved = PLACES[:at] + [place] + PLACES[at + 1:]
                self.tells(as_told(ROW, moved, CUTS), ROW, moved, CUTS)
        for at in range(len(CUTS)):
            self.tells(False, ROW, PLACES, CUTS[:at] + CUTS[at + 1:])
            for cut in wrong:
                moved = CUTS[:at] + [cut] + CUTS[at + 1:]
                self.tells(as_told(ROW, PLACES, moved), ROW, PLACES, moved)
        for place in wrong:
            for at in range(len(PLACES) + 1):
                self.tells(False, ROW, PLACES[:at] + [place] + PLACES[at:], CUTS)
            for at in range(len(CUTS) + 1):
                self.tells(False, ROW, PLACES, CUTS[:at] + [place] + CUTS[at:])

    def test_a_place_and_a_cut_left_out_or_put_in_together(self):
        for at in range(len(PLACES)):
            for cut_at in range(len(CUTS)):
                self.tells(False, ROW, PLACES[:at] + PLACES[at + 1:], CUTS[:cut_at] + CUTS[cut_at + 1:])
        for place in range(-1, len(ROW) + 1):
            for cut in range(-1, len(ROW) + 1):
                self.tells(False, ROW, sorted(PLACES + [place]), sorted(CUTS + [cut]))

    def test_turned_about_and_counted_from_the_end(self):
        self.tells(False, ROW, PLACES[::-1], CUTS)
        self.tells(False, ROW, PLACES, CUTS[::-1])
        self.tells(False, ROW, [place - len(ROW) for place in PLACES], CUTS)
        self.tells(False, ROW, PLACES, [cut - len(ROW) for cut in CUTS])
        self.tells(False, ROW, CUTS, PLACES)

    def test_neighbours_turned_about_or_twice(self):
        for kept, wrong in ((PLACES, []), (CUTS, [])):
            for at in range(len(kept) - 1):
                wrong.append(kept[:at] + [kept[at + 1], kept[at]] + kept[at + 2:])
                wrong.append(kept[:at] + [kept[at], kept[at]] + kept[at + 2:])
            for changed in wrong:
                places, cuts = (changed, CUTS) if kept is PLACES else (PLACES, changed)
                self.tells(False, ROW, places, cuts)

    def test_none_at_all_and_far_too_many(self):
        for row in ([1, 2], [1, 3, 2], ROW):
            self.tells(False, row, [], [])
            self.tells(False, row, [0], [])
            self.tells(False, row, list(range(len(row))), list(range(len(row))))
            self.tells(False, row, list(range(1000)), list(range(998)))

    def test_of_another_row(self):
        held = Zigzag([0, 1, 2], [1])
        told = [([1, 3, 2], True), ([3, 1, 2], True), ([1, 2, 3], False), ([1, 3, 3], False),
                ([1, 3], False), ([1, 3, 2, 4], False), ([1, 3, 2, 2], True), ([], False), ([4] * 3, False)]
        for row, truth in told:
            self.assertIs(held.shows(row), truth, row)


class Fields(unittest.TestCase):
    def test_the_fields_are_as_they_were_handed_in(self):
        for places, cuts in (([], []), ([0], []), ([3, 1, -7], [2, 2]), ([HUGE], [0, -HUGE])):
            held = Zigzag(places, cuts)
            self.assertEqual((held.places, held.cuts), (places, cuts))
            self.assertEqual((type(held.places), type(held.cuts)), (list, list))

    def test_changed_behind_what_it_was_made_of(self):
        places, cuts = [0, 1, 2], [1]
        held = Zigzag(places, cuts)
        places.append(9)
        cuts[0] = 7
        self.assertEqual((held.places, held.cuts), ([0, 1, 2], [1]))
        self.assertIs(held.shows([1, 3, 2]), True)
        places.clear()
        cuts.clear()
        self.assertEqual((held.places, held.cuts), ([0, 1, 2], [1]))

    def test_changed_fields_leave_what_it_was_made_of(self):
        places, cuts = [0, 1, 2], [1]
        held = Zigzag(places, cuts)
        held.places.append(3)
        held.cuts.clear()
        self.assertEqual((places, cuts), ([0, 1, 2], [1]))

    def test_one_list_for_both_fields(self):
        both = [0]
        held = Zigzag(both, both)
        held.places.append(5)
        self.assertEqual((held.places, held.cuts, both), ([0, 5], [0], [0]))

    def test_asked_by_the_fields_as_they_stand_then(self):
        row = [1, 3, 2]
        held = Zigzag([0, 1, 2], [1])
        self.assertIs(held.shows(row), True)
        held.places[2] = 1
        self.assertIs(held.shows(row), False)
        held.places[2] = 2
        self.assertIs(held.shows(row), True)
        held.cuts.append(2)
        self.assertIs(held.shows(row), False)
        held.cuts = [1]
        self.assertIs(held.shows(row), True)
        held.places = [0, 2]
        self.assertIs(held.shows(row), False)
        held.places = [0, 1, 2]
        held.cuts = []
        self.assertIs(held.shows(row), False)

    def test_asking_changes_nothing(self):
        for row in ([], [5], [5, 5], [1, 3, 2], ROW):
            for places, cuts in (([], []), ([0, 1, 2], [1]), (PLACES, CUTS), ([-1, 99], [4, 2])):
                kept, held = list(row), Zigzag(places, cuts)
                first = held.shows(row)
                self.assertIs(held.shows(row), first)
                self.assertEqual((row, held.places, held.cuts), (kept, places, cuts))

    def test_two_answers_share_nothing(self):
        one, other = longest([1, 3, 2]), longest([1, 3, 2])
        one.places.clear()
        one.cuts.append(2)
        self.assertIs(other.shows([1, 3, 2]), True)

    def test_the_interface_names_the_arguments(self):
        self.assertIs(Zigzag(cuts=[1], places=[0, 1, 2]).shows(row=[1, 3, 2]), True)
        self.assertEqual((Zigzag.__module__, answers.Zigzag), ("risefall.answers", Zigzag))
        self.assertIn("shows", vars(Zigzag))


if __name__ == "__main__":
    unittest.main()
