"""The answer of risefall.zigzag: a zigzag of a row, and a cutting that no zigzag outdoes."""

from itertools import pairwise


def all_alike(row):
    """Tell whether all numbers of the row are alike, also where there is none."""
    return all(value == row[0] for value in row)


def are_rising_places(row, places):
    """Tell whether these are places of the row, each behind the one ahead of it."""
    # What is below 0 is no place, though Python would count it from the row's end.
    within = all([0 <= place < len(row) for place in places])
    return within and all([here < behind for here, behind in pairwise(places)])


def is_zigzag(row, places):
    """Tell whether the places are a zigzag of the row."""
    if not are_rising_places(row, places):
        return False
    steps = [row[behind] - row[here] for here, behind in pairwise(places)]
    return 0 not in steps and all([(one > 0) != (other > 0) for one, other in pairwise(steps)])


def is_stretch(numbers):
    """Tell whether the numbers never fall, or never rise."""
    never_falls = all([here <= behind for here, behind in pairwise(numbers)])
    never_rises = all([here >= behind for here, behind in pairwise(numbers)])
    return never_falls or never_rises


def is_cutting(row, cuts):
    """Tell whether the places are a cutting of the row."""
    if not are_rising_places(row, cuts):
        return False
    ends = [0, *cuts, len(row) - 1]
    return all([is_stretch(row[first:last + 1]) for first, last in pairwise(ends)])


class Zigzag:
    """A zigzag by its places, and a cutting by its own."""

    def __init__(self, places, cuts):
        self.places = list(places)
        self.cuts = list(cuts)

    def shows(self, row):
        """Tell whether these are a zigzag and a cutting of the row, as many as the row asks for."""
        if all_alike(row):
            as_many = len(self.places) == min(1, len(row)) and not self.cuts
        else:
            as_many = len(self.places) == len(self.cuts) + 2
        return as_many and is_zigzag(row, self.places) and is_cutting(row, self.cuts)
