"""Alphabets and words."""

import inspect
import unittest

from helping import STRANGE, all_words
from onlyahead.errors import InvalidAlphabet
from onlyahead.letters import is_alphabet, is_word, words_to


class AlphabetTest(unittest.TestCase):
    def test_alphabets(self):
        for value in ("a", "z", "ab", "az", "abc", "abcd", "wxyz", "behz"):
            self.assertIs(is_alphabet(value), True, value)

    def test_others(self):
        others = ["", "abcde", "ba", "aa", "abb", "aab", "acb", "aba", "A", "aB", "a1", "a ", " a", "a-", "a\n", "`", "{"]
        others += ["\u00e9", "a\u00e9", "\u00df", "\uff41", "\u03b1", b"ab", {"a": 1}, {"a"}, 1.5, object()]
        for value in others + STRANGE:
            self.assertIs(is_alphabet(value), False, repr(value))

    def test_by_name(self):
        self.assertIs(is_alphabet(value="ab"), True)


class WordTest(unittest.TestCase):
    def test_words(self):
        for alphabet, word in (("a", ""), ("a", "aaa"), ("ab", "ba"), ("abcd", "dcba"), ("bz", "zzb"), ("ab", "ab" * 2000)):
            self.assertIs(is_word(alphabet, word), True, word)

    def test_others(self):
        for alphabet, word in (("a", "b"), ("ab", "abc"), ("ac", "b"), ("ab", "A"), ("ab", "a b"), ("ab", "a\n"), ("ab", b"a")):
            self.assertIs(is_word(alphabet, word), False, word)
        for value in STRANGE:
            self.assertIs(is_word("abcd", value), value == "", repr(value))

    def test_by_name(self):
        self.assertIs(is_word(value="b", alphabet="ab"), True)


class WordsToTest(unittest.TestCase):
    def test_order(self):
        self.assertEqual(list(words_to("ab", 2)), ["", "a", "b", "aa", "ab", "ba", "bb"])
        self.assertEqual(list(words_to(length=3, alphabet="z")), ["", "z", "zz", "zzz"])

    def test_edges(self):
        for alphabet in ("a", "ab", "bdz", "abcd"):
            for length in range(7):
                self.assertEqual(list(words_to(alphabet, length)), all_words(alphabet, length))

    def test_is_a_generator(self):
        words = words_to("ab", 6)
        self.assertTrue(inspect.isgenerator(words))
        self.assertEqual(next(words), "")
        self.assertEqual(next(words), "a")

    def test_raises_when_the_first_item_is_asked_for(self):
        for value in ["ba", "abcde", "a\u00e9", *STRANGE]:
            words = words_to(value, 2)
            with self.assertRaises(InvalidAlphabet) as caught:
                next(words)
            self.assertIs(caught.exception.given, value)


if __name__ == "__main__":
    unittest.main()
