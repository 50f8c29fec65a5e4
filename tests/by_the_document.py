"""What the document says, to the letter, for the tests to hold the program against."""

from itertools import combinations


def word_by_signs(order):
    return "".join("u" if behind > here else "d" for here, behind in zip(order, order[1:]))


def rises(row, places):
    """Rising places of the row."""
    return all(place in range(len(row)) for place in places) and all(
        places[k] < places[k + 1] for k in range(len(places) - 1))


def zigzag(row, places):
    """Point 4: greater and less by turns, beginning either way."""
    if not rises(row, places):
        return False
    signs = ""
    for k in range(len(places) - 1):
        here, behind = row[places[k]], row[places[k + 1]]
        signs += "=" if here == behind else "<" if here < behind else ">"
    return "=" not in signs and "<<" not in signs and ">>" not in signs


def cutting(row, cuts):
    """Point 4: each stretch, with both its ends, never falls, or never rises."""
    if not rises(row, cuts):
        return False
    firsts = [0] + list(cuts)
    lasts = list(cuts) + [len(row) - 1]
    for first, last in zip(firsts, lasts):
        stretch = row[first:last + 1]
        if stretch != sorted(stretch) and stretch != sorted(stretch, reverse=True):
            return False
    return True


def as_told(row, places, cuts):
    """Point 5."""
    if not zigzag(row, places) or not cutting(row, cuts):
        return False
    if len(set(row)) > 1:
        return len(places) == len(cuts) + 2
    return len(cuts) == 0 and len(places) == (1 if row else 0)


def choices(row):
    """All choices of places of the row, rising."""
    for many in range(len(row) + 1):
        for places in combinations(range(len(row)), many):
            yield list(places)


def most(row):
    """How many places the longest zigzag has, by trying all choices."""
    return max(len(places) for places in choices(row) if zigzag(row, places))
