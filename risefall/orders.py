"""Orders by their numbers: the orders of a word are numbered as they stand when sorted as lists."""

from itertools import pairwise

from risefall.errors import BadNumber, BadOrder
from risefall.words import check_word, is_whole, ways_of, word_of

EXCHANGED = {"u": "d", "d": "u"}


def check_number(number, many):
    """Refuse what is no whole number from 0 to one less than `many`."""
    if not is_whole(number) or not 0 <= number < many:
        raise BadNumber("no order of the word has this number")


def check_order(word, order):
    """Refuse what is no order for the word, or one that has another word."""
    if not isinstance(order, list) or not all(is_whole(value) for value in order):
        raise BadOrder("an order is a list of whole numbers")
    if sorted(order) != list(range(len(word) + 1)):
        raise BadOrder("an order for the word holds each number up to the count of its letters once")
    if word_of(order) != word:
        raise BadOrder("the order has another word")


def ways_ahead(word):
    """Tell by the first number how many orders of the word begin with it."""
    # An order told backwards has the word told backwards, with its letters exchanged.
    return ways_of("".join([EXCHANGED[letter] for letter in word[::-1]]))


def ways_shorter(ways):
    """Tell the ways ahead of a word without its first letter, given those of the word itself."""
    # Those of the word are sums of these, one more or one less from place to place. To undo
    # the sums spares keeping a table of the ways of every end of the word.
    return [abs(behind - here) for here, behind in pairwise(ways)]


def least_rank(letter, rank):
    """Tell the least rank that the number behind the letter can have among the numbers left.

    `rank` is that of the number at the letter, when it was left itself. Once it is taken, the
    numbers that are greater have the ranks from its own on, the others those below.
    """
    return rank if letter == "u" else 0


def order_of(word, number):
    """Tell the order that has the number among the orders of the word."""
    check_word(word)
    ways = ways_ahead(word)
    check_number(number, sum(ways))
    left = list(range(len(word) + 1))
    order = []
    rank = 0
    # The letter d put ahead lets the first number be any one, from the least on.
    for letter in "d" + word:
        rank = least_rank(letter, rank)
        while number >= ways[rank]:
            number -= ways[rank]
            rank += 1
        order.append(left.pop(rank))
        ways = ways_shorter(ways)
    return order


def number_of(word, order):
    """Tell the number that the order has among the orders of the word."""
    check_word(word)
    check_order(word, order)
    ways = ways_ahead(word)
    left = list(range(len(word) + 1))
    number = 0
    rank = 0
    # The same walk as that of order_of, along an order that is known.
    for letter, value in zip("d" + word, order):
        least = least_rank(letter, rank)
        rank = left.index(value)
        left.pop(rank)
        number += sum(ways[least:rank])
        ways = ways_shorter(ways)
    return number
