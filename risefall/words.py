"""Words of rises (u) and falls (d): how many orders have one, and which one a row has."""

from itertools import accumulate, pairwise

from risefall.errors import BadRow, BadWord


def check_word(word):
    """Refuse what is no text of the letters u and d alone."""
    if not isinstance(word, str) or word.count("u") + word.count("d") != len(word):
        raise BadWord("a word is a text of the letters u and d alone")


def is_whole(value):
    """Tell whether the value is a whole number."""
    # True and False are integers to Python, but no numbers to the document.
    return isinstance(value, int) and not isinstance(value, bool)


def check_row(row):
    """Refuse what is no list of whole numbers."""
    if not isinstance(row, list):
        raise BadRow("a row is a list")
    if not all(is_whole(value) for value in row):
        raise BadRow("a row holds whole numbers alone")


def ways_behind(ways, letter):
    """Tell by the rank of the last number how many orders there are, one number longer.

    `ways` tells the same of the orders before the letter. The rank of a number is how many
    numbers of its order are less than it.
    """
    # A new last number of some rank stands above the old last numbers of lesser ranks, and
    # below all others: it pushes an old number of its own rank up by one.
    if letter == "u":
        return [0] + list(accumulate(ways))
    return list(accumulate(ways[::-1]))[::-1] + [0]


def ways_of(word):
    """Tell by the last number how many orders of the word end with it."""
    ways = [1]
    for letter in word:
        ways = ways_behind(ways, letter)
    return ways


def count(word):
    """Tell how many orders have the word."""
    check_word(word)
    return sum(ways_of(word))


def word_of(row):
    """Tell the word of a row of one number or more, each unlike its neighbours."""
    check_row(row)
    if not row:
        raise BadRow("a row of no number has no word")
    letters = []
    for here, behind in pairwise(row):
        if here == behind:
            raise BadRow("two neighbours of the row are alike")
        letters.append("u" if here < behind else "d")
    return "".join(letters)
