"""Words by which two judges are told apart."""

import itertools
import unittest

from helping import all_words, counting, ring_rows, some_judges
from onlyahead.errors import AlphabetsDiffer
from onlyahead.machines import Judge
from onlyahead.parting import differences, first_difference

ENDS = Judge("ab", [(1, 0), (1, 0)], [1])


def line_of(length, accepted):
    """A judge over one letter that counts up to a length and stays there."""
    return Judge("a", [(min(state + 1, length),) for state in range(length + 1)], accepted)


class FirstDifferenceTest(unittest.TestCase):
    def test_ordinary(self):
        even = counting(2, 0, "ab")
        self.assertEqual(first_difference(ENDS, even), "")
        self.assertEqual(first_difference(ENDS, -even), "b")
        self.assertEqual(first_difference(one=-even, other=ENDS), "b")
        self.assertEqual(first_difference(counting(2), counting(3)), "aa")

    def test_none(self):
        self.assertIsNone(first_difference(ENDS, ENDS))
        bigger = Judge("ab", [(2, 1), (2, 0), (3, 1), (2, 0), (4, 4)], [2, 3, 4])
        self.assertIsNone(first_difference(ENDS, bigger))
        self.assertIsNone(first_difference(bigger, ENDS))
        # No word leads to the states that differ.
        self.assertIsNone(first_difference(Judge("a", [(0,), (1,)], [1]), Judge("a", [(0,)], [])))

    def test_starts(self):
        rows = ring_rows(3)
        one, other = Judge("a", rows, [0], start=1), Judge("a", rows, [2], start=0)
        self.assertIsNone(first_difference(one, other))
        self.assertEqual(first_difference(one, Judge("a", rows, [2], start=1)), "a")

    def test_one_state_differs(self):
        for state in range(1000):
            if state % 111 == 0:
                one, other = counting(1000, 999), Judge("a", ring_rows(1000), sorted({999, state}))
                found = None if state == 999 else "a" * state
                self.assertEqual(first_difference(one, other), found)
                self.assertEqual(first_difference(other, one), found)

    def test_length_ahead_of_letters(self):
        rows = [(1, 3), (2, 2), (4, 2), (2, 2), (4, 4)]
        one = Judge("ab", rows, [])
        self.assertEqual(first_difference(one, Judge("ab", rows, [3, 4])), "b")
        self.assertEqual(first_difference(one, Judge("ab", rows, [4])), "aaa")
        self.assertEqual(first_difference(one, Judge("ab", rows, [2])), "aa")

    def test_same_as_by_all_words(self):
        for alphabet, states, length in (("a", 4, 8), ("ab", 3, 6), ("abcd", 2, 4)):
            words = all_words(alphabet, length)
            judges = some_judges(11, 40, alphabet, states)
            for one, other in itertools.product(judges[:20], judges[20:]):
                first = next((word for word in words if (word in one) != (word in other)), None)
                self.assertEqual(first_difference(one, other), first)

    def test_many_pairs(self):
        self.assertEqual(first_difference(counting(997, 996), counting(991, 990)), "a" * 990)
        none, nothing = Judge("ab", ring_rows(997, "ab"), []), Judge("ab", ring_rows(991, "ab"), [])
        self.assertIsNone(first_difference(none, nothing))
        self.assertIsNone(first_difference(-none, -nothing))
        self.assertEqual(first_difference(none, -nothing), "")

    def test_long_words(self):
        self.assertEqual(first_difference(line_of(999, [999]), line_of(0, [])), "a" * 999)
        self.assertEqual(first_difference(line_of(998, [998]), line_of(999, [999])), "a" * 998)

    def test_alphabets_differ(self):
        for other in (counting(2, 0, "ac"), counting(2, 0, "a"), counting(2, 0, "abc")):
            for one, two in ((ENDS, other), (other, ENDS)):
                with self.assertRaises(AlphabetsDiffer) as caught:
                    first_difference(one, two)
                self.assertEqual(caught.exception.code, "AlphabetsDiffer")

    def test_judges_stay(self):
        before = ENDS.text
        self.assertEqual(first_difference(ENDS, -ENDS), first_difference(ENDS, -ENDS))
        self.assertEqual(ENDS.text, before)


class DifferencesTest(unittest.TestCase):
    def test_ordinary(self):
        even = counting(2, 0, "ab")
        self.assertEqual(list(differences(ENDS, even, 2)), ["", "a", "ab", "bb"])
        self.assertEqual(list(differences(one=ENDS, other=-even, length=2)), ["b", "aa", "ba"])
        self.assertEqual(list(differences(ENDS, ENDS, 6)), [])

    def test_lengths(self):
        judges = some_judges(12, 16, "abc", 3)
        for length in range(7):
            words = all_words("abc", length)
            for one, other in zip(judges, judges[1:]):
                told = [word for word in words if (word in one) != (word in other)]
                self.assertEqual(list(differences(one, other, length)), told)
        self.assertEqual(list(differences(ENDS, -ENDS, 0)), [""])
        self.assertEqual(list(differences(ENDS, -ENDS, 6)), all_words("ab", 6))

    def test_four_letters(self):
        one = Judge("abcd", [(0, 0, 0, 0)], [])
        self.assertEqual(list(differences(one, -one, 6)), all_words("abcd", 6))

    def test_begins_with_the_first_difference(self):
        for one, other in itertools.combinations(some_judges(13, 12, "ab", 3), 2):
            self.assertEqual(next(differences(one, other, 6), None), first_difference(one, other))

    def test_alphabets_differ_when_asked(self):
        for other in (counting(2), counting(2, 0, "ac"), counting(2, 0, "abc")):
            for one, two in ((ENDS, other), (other, ENDS)):
                for length in (0, 6):
                    asked = differences(one, two, length)
                    with self.assertRaises(AlphabetsDiffer):
                        next(asked)


if __name__ == "__main__":
    unittest.main()
