"""Points 1 and 2: how many orders have a word."""

import subprocess
import sys
import unittest
from itertools import permutations, product
from math import comb, factorial
from pathlib import Path

from risefall import words
from risefall.errors import BadWord
from risefall.words import count

from wrong import of_every_kind, refused_by

TOP = Path(__file__).resolve().parent.parent


def words_of_length(length):
    return ["".join(letters) for letters in product("ud", repeat=length)]


def zigzag_word(length):
    return ("ud" * length)[:length]


def exchanged(word):
    return "".join("d" if letter == "u" else "u" for letter in word)


def has(order, word):
    """Point 1 to the letter."""
    for place, letter in enumerate(word):
        if letter == "u" and not order[place + 1] > order[place]:
            return False
        if letter == "d" and not order[place + 1] < order[place]:
            return False
    return True


def long_words():
    """Words of a hundred letters and more, with runs of many lengths."""
    found = [zigzag_word(100), zigzag_word(151), "u" * 60 + "d" * 60, "uud" * 40, "dduuu" * 25]
    for seed in (3, 7, 11):
        found.append("".join("u" if n * n * seed // 5 % 3 else "d" for n in range(100 + 9 * seed)))
    return found


def zigzag_numbers(most):
    """How many orders rise and fall by turns, by the recurrence over the place of the greatest."""
    found = [1, 1]
    while len(found) <= most:
        n = len(found) - 1
        found.append(sum(comb(n, k) * found[k] * found[n - k] for k in range(n + 1)) // 2)
    return found


class Orders(unittest.TestCase):
    def test_the_word_of_no_letter_has_one_order(self):
        self.assertEqual(count(""), 1)

    def test_small_words_by_hand(self):
        told = {"u": 1, "d": 1, "uu": 1, "ud": 2, "du": 2, "dd": 1, "uud": 3, "udu": 5, "uddu": 11,
                "udud": 16}
        self.assertEqual({word: count(word) for word in told}, told)

    def test_each_short_word_has_as_many_as_trying_all_orders_finds(self):
        for length in range(6):
            orders = list(permutations(range(length + 1)))
            for word in words_of_length(length):
                self.assertEqual(count(word), sum(has(order, word) for order in orders), word)

    def test_each_word_of_seven_letters_has_as_many_as_are_found(self):
        found = {}
        for order in permutations(range(8)):
            word = "".join("u" if a < b else "d" for a, b in zip(order, order[1:]))
            found[word] = found.get(word, 0) + 1
        self.assertEqual({word: count(word) for word in words_of_length(7)}, found)

    def test_all_words_of_a_length_share_out_all_orders(self):
        for length in range(11):
            shared = sum(count(word) for word in words_of_length(length))
            self.assertEqual(shared, factorial(length + 1))

    def test_the_answer_is_a_whole_number_and_no_truth(self):
        for word in ("", "u", "d", "udud", zigzag_word(120)):
            self.assertIs(type(count(word)), int)

    def test_always_alike_for_the_same_word(self):
        for word in ["", "u", "uddu"] + long_words():
            self.assertEqual(count(word), count("".join(list(word))))

    def test_the_interface_names_the_argument(self):
        self.assertEqual(count(word="uddu"), 11)
        self.assertEqual((count.__module__, words.count), ("risefall.words", count))


class HowMany(unittest.TestCase):
    def test_a_word_that_only_rises_or_only_falls_has_one(self):
        for length in (1, 2, 10, 100, 300):
            self.assertEqual((count("u" * length), count("d" * length)), (1, 1))

    def test_one_peak_and_one_valley(self):
        for up, down in ((1, 1), (3, 4), (50, 50), (1, 150), (99, 2)):
            many = comb(up + down, up)
            self.assertEqual(count("u" * up + "d" * down), many)
            self.assertEqual(count("d" * up + "u" * down), many)

    def test_long_zigzags_are_exact(self):
        told = zigzag_numbers(301)
        for length in (5, 50, 99, 100, 101, 250, 300):
            self.assertEqual(count(zigzag_word(length)), told[length + 1])

    def test_with_a_letter_behind_as_many_times_more_as_letters_and_two(self):
        for word in sum((words_of_length(n) for n in range(8)), []) + long_words():
            many = count(word + "u") + count(word + "d")
            self.assertEqual(many, (len(word) + 2) * count(word), word)

    def test_all_letters_exchanged_as_many(self):
        for word in sum((words_of_length(n) for n in range(9)), []) + long_words():
            self.assertEqual(count(exchanged(word)), count(word), word)

    def test_told_backwards_as_many(self):
        for word in sum((words_of_length(n) for n in range(9)), []) + long_words():
            self.assertEqual(count(word[::-1]), count(word), word)

    def test_no_word_of_one_length_has_more_than_the_zigzag(self):
        for length in range(11):
            most = max(count(word) for word in words_of_length(length))
            self.assertEqual(most, count(zigzag_word(length)), length)
        for word in long_words():
            self.assertLessEqual(count(word), count(zigzag_word(len(word))), word)

    def test_words_of_many_letters_are_answered_soon(self):
        # In a run of its own, so that a count that tries all orders is ended and not waited for.
        asked = (
            "from risefall.words import count\n"
            "for word in ('ud' * 60, 'uud' * 50, 'd' * 400, 'uuddd' * 80, 'ud' * 400):\n"
            "    many, longer = count(word), count(word + 'u') + count(word + 'd')\n"
            "    assert longer == (len(word) + 2) * many\n"
        )
        subprocess.run([sys.executable, "-c", asked], check=True, timeout=60, cwd=TOP)


class Refused(unittest.TestCase):
    def refused(self, word):
        refused_by(self, BadWord, count, word)

    def test_what_is_no_text_of_whatever_kind(self):
        for value in of_every_kind():
            self.refused(value)

    def test_a_list_of_any_kind(self):
        for value in ([], ["u"], ["u", "d"], ["ud"], [""], [1, 2], [None], [[]]):
            self.refused(value)

    def test_another_sign_at_whatever_place(self):
        signs = [chr(code) for code in range(ord("~") + 1) if chr(code) not in "ud"]
        for sign in signs:
            self.refused(sign)
            for word in ("u", "ud", "uddu"):
                for place in range(len(word) + 1):
                    self.refused(word[:place] + sign + word[place:])

    def test_capitals_blanks_tabs_and_line_ends(self):
        for sign in ("U", "D", " ", "\t", "\n", "\r", "\r\n", "\v", "\f", "\0"):
            for word in (sign, "ud" + sign, sign + "ud", "u" + sign + "d", sign * 2):
                self.refused(word)
        for word in ("UD", "Ud", "uD", "up", "down", "u,d", "ud.", "0", "1", "<>"):
            self.refused(word)

    def test_a_sign_far_along(self):
        for place in (0, 1, 150, 299, 300):
            word = zigzag_word(300)
            self.refused(word[:place] + "x" + word[place:])


if __name__ == "__main__":
    unittest.main()
