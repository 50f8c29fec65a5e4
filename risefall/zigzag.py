"""The longest zigzag that is left in a row."""

from itertools import pairwise

from risefall.answers import Zigzag, all_alike
from risefall.words import check_row


def turns(row):
    """Tell the places at which the row, risen up to there, falls, or fallen up to there, rises."""
    found = []
    rose = None
    for place, (here, behind) in enumerate(pairwise(row)):
        # Alike neighbours belong to whatever stretch they stand in.
        if here != behind:
            rises = here < behind
            if rose is not None and rose != rises:
                found.append(place)
            rose = rises
    return found


def longest(row):
    """Tell a zigzag of the row that none outdoes, and a cutting that shows it."""
    check_row(row)
    if all_alike(row):
        return Zigzag(list(range(min(1, len(row)))), [])
    cuts = turns(row)
    return Zigzag([0, *cuts, len(row) - 1], cuts)
