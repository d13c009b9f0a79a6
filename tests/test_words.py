"""Words and names: points [3] to [5]."""

import itertools
import unittest

from laminae.errors import BadName
from laminae.words import ALPHABET, are_words, is_word, name_word, word_name

NOT_WORDS = [-1, -10 ** 40, True, False, None, "", "1", "a", 1.0, (), (1,), [], [1], {}, b"1"]
GREAT = 10 ** 400


def word_of_digits(digits):
    """The word with these 11 digits in base 40."""
    word = 0
    for digit in digits:
        word = word * 40 + digit
    return word


class WordsTest(unittest.TestCase):

    def test_words_are_integers_from_0_without_a_bound(self):
        for value in (0, 1, 255, 2 ** 64, GREAT):
            self.assertIs(is_word(value), True)

    def test_other_values_are_not_words(self):
        for value in NOT_WORDS:
            self.assertIs(is_word(value), False, repr(value))

    def test_lists_of_words_have_the_exact_length(self):
        for many in (0, 1, 8, 32):
            self.assertIs(are_words([GREAT] * many, many), True)
            self.assertIs(are_words([0] * many, many + 1), False)
            self.assertIs(are_words([0] * (many + 1), many), False)

    def test_one_wrong_value_at_any_place(self):
        for wrong in NOT_WORDS:
            for at in range(8):
                values = [5] * 8
                values[at] = wrong
                before = list(values)
                self.assertIs(are_words(values, 8), False)
                self.assertEqual(values, before)
                self.assertEqual([type(value) for value in values], [type(value) for value in before])

    def test_only_lists_are_lists_of_words(self):
        for value in ((1, 2), "12", {1: 1, 2: 2}, {1, 2}, None, 2, True, range(2), b"12"):
            self.assertIs(are_words(value, 2), False, repr(value))
        self.assertIs(are_words((), 0), False)


class NamesTest(unittest.TestCase):

    def test_the_alphabet(self):
        self.assertEqual(ALPHABET, "abcdefghijklmnopqrstuvwxyz0123456789._-")
        self.assertEqual(len(ALPHABET), 39)

    def test_words_of_names(self):
        self.assertEqual(name_word("a"), 10485760000000000)
        self.assertEqual(name_word("a"), 40 ** 10)
        self.assertEqual(name_word("ab"), 40 ** 10 + 2 * 40 ** 9)
        self.assertEqual(name_word("-" * 11), 40 ** 11 - 1)
        self.assertEqual(name_word(".a"), 37 * 40 ** 10 + 40 ** 9)
        self.assertEqual(name_word("aaaaaaaaaab"), sum(40 ** k for k in range(11)) + 1)

    def test_every_character_has_its_digit(self):
        for index, letter in enumerate(ALPHABET):
            self.assertEqual(name_word("a" + letter), 40 ** 10 + (index + 1) * 40 ** 9)

    def test_names_that_are_not_valid(self):
        wrong = ["", "a" * 12, ".", "..", "." * 11, "A", "a b", "a/b", "@a", "a\n", "\u00e4", "a\u00df", "a,b", "aB"]
        for name in wrong + [None, 1, True, b"a", ["a"], ("a",), 1.5, {}]:
            with self.assertRaises(BadName, msg=repr(name)):
                name_word(name)

    def test_points_beside_another_character_are_a_name(self):
        for name in (".a", "a.", "..-", ".........._", "._"):
            self.assertEqual(word_name(name_word(name)), name)

    def test_the_two_undo_each_other(self):
        for many in (1, 2):
            for letters in itertools.product(ALPHABET, repeat=many):
                name = "".join(letters)
                if name.strip("."):
                    self.assertEqual(word_name(name_word(name)), name)
        for name in ("hello", "a" * 11, "-" * 11, "0.9_-zzzzza", "main", "s1"):
            self.assertEqual(word_name(name_word(name)), name)
            self.assertEqual(name_word(word_name(name_word(name))), name_word(name))

    def test_words_without_a_name(self):
        points = word_of_digits([37, 37, 37] + [0] * 8)
        wrong = [
            0, 1, 2, 40 ** 10 - 1, 40 ** 11, 40 ** 11 + 40 ** 10, 41 * 40 ** 10, GREAT,
            word_of_digits([1, 0, 1] + [0] * 8), word_of_digits([0, 1] + [0] * 9), word_of_digits([1] * 9 + [0, 1]),
            word_of_digits([0] * 10 + [5]), word_of_digits([37] + [0] * 10), points, word_of_digits([37] * 11),
        ]
        for word in wrong + [-1, -40 ** 10, True, False, None, "a", "10485760000000000", 1e16, [40 ** 10], ()]:
            with self.assertRaises(BadName, msg=repr(word)):
                word_name(word)

    def test_a_greatest_word(self):
        self.assertEqual(word_name(word_of_digits([39] * 11)), "-" * 11)
        with self.assertRaises(BadName):
            word_name(word_of_digits([39] * 11) + 1)

    def test_the_order_of_words_is_the_order_of_names(self):
        names = ["a", "aa", "aaa", "ab", "az", "a0", "a9", "a.", "a_", "a-", "b", "ba", "z", "0", "9", ".a", "_", "-"]
        names += ["-a", "--", "-" * 10, "-" * 11, "main", "mainly", "a" * 10, "a" * 11]
        by_index = sorted(names, key=lambda name: [ALPHABET.index(letter) for letter in name])
        self.assertEqual(sorted(names, key=name_word), by_index)
        self.assertEqual(len({name_word(name) for name in names}), len(names))
        self.assertEqual(by_index[:3], ["a", "aa", "aaa"])


if __name__ == "__main__":
    unittest.main()
