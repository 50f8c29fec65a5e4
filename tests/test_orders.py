"""Points 1 and 3: the orders of a word by their numbers."""

import subprocess
import sys
import unittest
from itertools import permutations, product
from pathlib import Path

from risefall import orders
from risefall.errors import BadNumber, BadOrder, BadWord
from risefall.orders import number_of, order_of
from risefall.words import count, word_of

from by_the_document import word_by_signs
from wrong import Like, Plain, of_every_kind, refused_by

TOP = Path(__file__).resolve().parent.parent
HUGE = 10**40
MIXED = "".join("u" if n * n // 5 % 3 else "d" for n in range(75))
LONG = ["u" * 60, "d" * 60, "u" * 90, "d" * 90, "ud" * 30, "du" * 30, "ud" * 60, "du" * 60 + "d",
        "u" * 30 + "d" * 30, "d" * 40 + "u" * 30, "uud" * 25, "dduuu" * 20, MIXED, MIXED[::-1]]


def words_of_length(length):
    return ["".join(letters) for letters in product("ud", repeat=length)]


def some_numbers(word):
    """Number 0, the last, and some between."""
    last = count(word) - 1
    found = {0, last, last // 2, last // 3, last * 5 // 7, last * 99 // 100}
    return sorted(found | {min(1, last), max(0, last - 1)})


class ShortWords(unittest.TestCase):
    def test_each_word_of_up_to_7_letters_has_its_orders_each_once(self):
        for length in range(8):
            found = {word: [] for word in words_of_length(length)}
            for order in permutations(range(length + 1)):
                found[word_by_signs(order)].append(list(order))
            for word, having in found.items():
                self.assertEqual(count(word), len(having), word)
                told = [order_of(word, number) for number in range(len(having))]
                self.assertEqual(sorted(told), sorted(having), word)
                for number, order in enumerate(told):
                    self.assertEqual(number_of(word, order), number, (word, order))

    def test_numbered_as_they_stand_when_sorted(self):
        # The document leaves the numbering free; README.md says this one.
        for length in range(7):
            for word in words_of_length(length):
                told = [order_of(word, number) for number in range(count(word))]
                self.assertEqual(told, sorted(told), word)

    def test_by_hand(self):
        self.assertEqual(order_of("", 0), [0])
        self.assertEqual(number_of("", [0]), 0)
        self.assertEqual(order_of("uuu", 0), [0, 1, 2, 3])
        self.assertEqual(order_of("ddd", 0), [3, 2, 1, 0])
        self.assertEqual(sorted(order_of("ud", n) for n in (0, 1)), [[0, 2, 1], [1, 2, 0]])
        self.assertEqual(sorted(number_of("du", order) for order in ([1, 0, 2], [2, 0, 1])), [0, 1])

    def test_an_order_is_a_list_of_numbers_and_a_number_no_truth(self):
        for word in ("", "u", "d", "ud", "uddu", MIXED):
            for number in some_numbers(word):
                order = order_of(word, number)
                self.assertIs(type(order), list)
                self.assertEqual({type(value) for value in order}, {int})
                self.assertIs(type(number_of(word, order)), int)

    def test_the_interface_names_the_arguments(self):
        self.assertEqual(number_of(word="du", order=order_of(word="du", number=1)), 1)
        self.assertEqual((order_of.__module__, orders.order_of), ("risefall.orders", order_of))
        self.assertEqual((number_of.__module__, orders.number_of), ("risefall.orders", number_of))


class LongWords(unittest.TestCase):
    def test_there_and_back(self):
        for word in LONG:
            for number in some_numbers(word):
                order = order_of(word, number)
                self.assertEqual(sorted(order), list(range(len(word) + 1)))
                self.assertEqual(word_by_signs(order), word)
                self.assertEqual(number_of(word, order), number)

    def test_back_and_there(self):
        for seed in (7, 11, 29, 40):
            order = [(n + 1) * seed % 83 for n in range(82)]
            order = [sorted(order).index(value) for value in order]
            word = word_of(order)
            number = number_of(word, order)
            self.assertTrue(0 <= number < count(word))
            self.assertEqual(order_of(word, number), order)

    def test_different_numbers_have_different_orders(self):
        for word in LONG:
            told = [tuple(order_of(word, number)) for number in some_numbers(word)]
            self.assertEqual(len(set(told)), len(told), word)

    def test_number_beyond_the_last_is_refused_of_long_words_too(self):
        for word in LONG:
            refused_by(self, BadNumber, order_of, word, count(word))
            refused_by(self, BadNumber, order_of, word, -1)

    def test_each_is_told_within_a_second(self):
        # In a run of its own, so that a walk through all orders is ended and not waited for.
        asked = (
            "from time import perf_counter\n"
            "from risefall.orders import number_of, order_of\n"
            "from risefall.words import count\n"
            "def soon(call, *handed):\n"
            "    start = perf_counter()\n"
            "    told = call(*handed)\n"
            "    assert perf_counter() - start < 1, handed\n"
            "    return told\n"
            "beyond = ['ud' * 100, 'uud' * 80, 'd' * 200, 'u' * 100 + 'd' * 150]\n"
            f"for word in {LONG!r} + beyond:\n"
            "    last = soon(count, word) - 1\n"
            "    for number in (0, last // 3, last // 2, last):\n"
            "        order = soon(order_of, word, number)\n"
            "        assert soon(number_of, word, order) == number\n"
        )
        subprocess.run([sys.executable, "-c", asked], check=True, timeout=60, cwd=TOP)


class NothingKept(unittest.TestCase):
    def test_always_alike_for_the_same_word(self):
        for word in ["", "u", "uddu"] + LONG:
            for number in some_numbers(word):
                order = order_of(word, number)
                self.assertEqual(order_of("".join(list(word)), int(str(number))), order)
                self.assertEqual(number_of("".join(list(word)), list(order)), number)

    def test_what_is_told_may_be_changed(self):
        for word in ("", "u", "udd", "ud" * 30):
            for number in some_numbers(word):
                order = order_of(word, number)
                kept = list(order)
                order.reverse()
                order.append(99)
                order[0] = "x"
                self.assertEqual(order_of(word, number), kept)
                order.clear()
                self.assertEqual(order_of(word, number), kept)
                self.assertEqual(number_of(word, kept), number)

    def test_told_twice_is_two_lists(self):
        for word in ("", "ud", "uudd"):
            self.assertIsNot(order_of(word, 0), order_of(word, 0))

    def test_the_order_handed_in_stays_as_it_was(self):
        for word, order in (("", [0]), ("ud", [1, 2, 0]), ("uuu", [0, 1, 2, 3]), ("ud", [0, 1, 2]),
                            ("ud", [0, 2, 2]), ("ud", [0, None, 1]), ("ud", [2, 1]), ("ud", [])):
            kept = list(order)
            try:
                number_of(word, order)
            except BadOrder:
                pass
            self.assertEqual(len(order), len(kept))
            for here, before in zip(order, kept):
                self.assertIs(here, before)

    def test_an_order_that_is_changed_later_is_asked_anew(self):
        order = order_of("ud", 0)
        self.assertEqual(number_of("ud", order), 0)
        order[:] = order_of("ud", 1)
        self.assertEqual(number_of("ud", order), 1)
        order.reverse()
        self.assertIn(number_of("ud", order), (0, 1))
        order.append(3)
        refused_by(self, BadOrder, number_of, "ud", order)


class RefusedWords(unittest.TestCase):
    def refused(self, word):
        for number in (0, 1, -1, None, True, "0", [0]):
            refused_by(self, BadWord, order_of, word, number)
        for order in ([0], [0, 1], [0, 2, 1], [1, 1], [], None, (0,), "0", [True]):
            refused_by(self, BadWord, number_of, word, order)

    def test_what_is_no_text_of_whatever_kind_comes_first(self):
        for value in of_every_kind():
            self.refused(value)

    def test_lists(self):
        for value in ([], ["u"], ["u", "d"], [0, 1]):
            self.refused(value)

    def test_other_signs_come_first(self):
        for code in range(ord("~") + 1):
            if chr(code) not in "ud":
                for word in (chr(code), "u" + chr(code), chr(code) + "d", "u" + chr(code) + "d"):
                    refused_by(self, BadWord, order_of, word, 0)
                    refused_by(self, BadWord, order_of, word, -1)
                    refused_by(self, BadWord, number_of, word, list(range(len(word) + 1)))
                    refused_by(self, BadWord, number_of, word, None)
        for word in ("U", "Ud", "ud ", " ud", "u d", "ud\n", "ux", "0", "up"):
            self.refused(word)


class RefusedNumbers(unittest.TestCase):
    def test_below_0_the_count_and_beyond(self):
        for length in range(5):
            for word in words_of_length(length):
                many = count(word)
                for number in (-HUGE, -many - 1, -many, -2, -1, many, many + 1, 2 * many, HUGE):
                    refused_by(self, BadNumber, order_of, word, number)

    def test_what_is_no_number_of_whatever_kind(self):
        for word in ("", "u", "ud", "ud" * 30):
            for value in of_every_kind():
                if type(value) is not int:
                    refused_by(self, BadNumber, order_of, word, value)

    def test_true_and_false_are_no_numbers(self):
        for word in ("", "u", "ud", "uddu"):
            for value in (True, False):
                refused_by(self, BadNumber, order_of, word, value)

    def test_texts_and_lists(self):
        for value in ("", "0", "1", "u", [], [0], [1], [[]], [True]):
            for word in ("", "ud"):
                refused_by(self, BadNumber, order_of, word, value)


class RefusedOrders(unittest.TestCase):
    def refused(self, word, order):
        refused_by(self, BadOrder, number_of, word, order)

    def test_what_is_no_list_of_whatever_kind(self):
        for word in ("", "u", "ud", "ud" * 30):
            for value in of_every_kind():
                self.refused(word, value)
        for word, order in (("", (0,)), ("u", (0, 1)), ("u", "01"), ("u", {0: 1, 1: 2}),
                            ("u", range(2)), ("u", b"\0\1"), ("ud", iter([0, 2, 1]))):
            self.refused(word, order)

    def test_too_short_and_too_long(self):
        for word in ("", "u", "ud", "uud", MIXED):
            order = order_of(word, 0)
            self.refused(word, [])
            self.refused(word, order[1:])
            self.refused(word, order[:-1])
            self.refused(word, order + [len(order)])
            self.refused(word, order + [order[-1]])
            self.refused(word, [len(order)] + order)

    def test_orders_of_longer_and_shorter_words(self):
        for word in ("u", "ud", "uud"):
            self.refused(word, order_of(word + "u", 0))
            self.refused(word, order_of(word[:-1], 0))

    def test_another_number_at_whatever_place(self):
        # A number twice, below 0, or beyond, also where it rises and falls as the word tells.
        for word in ("", "u", "d", "ud", "udd", "uudd"):
            for number in some_numbers(word):
                order = order_of(word, number)
                for place, value in enumerate(order):
                    for other in list(range(-2, len(order) + 3)) + [HUGE, -HUGE, value - len(order)]:
                        if other != value:
                            self.refused(word, order[:place] + [other] + order[place + 1:])

    def test_all_numbers_moved(self):
        for word in ("", "u", "ud", "uddu"):
            order = order_of(word, 0)
            for by in (-1, 1, 5):
                self.refused(word, [value + by for value in order])
            if word:
                self.refused(word, [2 * value for value in order])
                self.refused(word, [value - len(word) for value in order])

    def test_a_strange_item_at_whatever_place(self):
        wrong = [True, False, None, "", "0", "u", [], [0], (), (0,), {}, {0}, b"", b"0", range(1),
                 len, int, Plain(), Like(), Ellipsis]
        for word in ("", "u", "d", "ud", "dud"):
            order = order_of(word, 0)
            for value in wrong:
                for place in range(len(order)):
                    self.refused(word, order[:place] + [value] + order[place + 1:])
                    self.refused(word, order[:place] + [value] + order[place:])

    def test_true_for_1_and_false_for_0(self):
        self.refused("", [False])
        self.refused("u", [False, 1])
        self.refused("u", [0, True])
        self.refused("u", [False, True])
        self.refused("d", [True, False])
        self.refused("ud", [False, 2, True])

    def test_an_order_within_itself(self):
        order = [0, 1]
        order.append(order)
        self.refused("uu", order)

    def test_orders_that_have_another_word(self):
        for length in range(1, 5):
            for order in permutations(range(length + 1)):
                for word in words_of_length(length):
                    if word != word_by_signs(order):
                        self.refused(word, list(order))
        for word in LONG:
            last = "d" if word[-1] == "u" else "u"
            self.refused(word, order_of(word[:-1] + last, 0))


if __name__ == "__main__":
    unittest.main()
