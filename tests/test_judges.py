"""Judges: accepted words, the least judge, judges made of judges."""

import itertools
import unittest

from helping import STRANGE, all_words, counting, ring_rows, some_judges
from onlyahead.errors import AlphabetsDiffer, InvalidAlphabet, InvalidRows, InvalidState, InvalidWord, TooMany
from onlyahead.machines import Judge, Machine

ROWS = [(1, 0), (2, 1), (0, 2)]


def plain_least(judge):
    """The least judge by a slower way: states are told apart by pairs, until nothing changes."""
    rows, accepted = judge.rows(), judge.accepted()
    states = sorted(judge.reachable(), key=lambda state: (len(judge.first_word(state)), judge.first_word(state)))
    unlike = {(x, y) for x in states for y in states if (x in accepted) != (y in accepted)}
    grown = True
    while grown:
        more = {(x, y) for x in states for y in states if any(pair in unlike for pair in zip(rows[x], rows[y]))}
        grown = not more <= unlike
        unlike |= more
    firsts = []
    for state in states:
        if all((state, first) in unlike for first in firsts):
            firsts.append(state)
    number = {state: at for state in states for at, first in enumerate(firsts) if (state, first) not in unlike}
    fresh = [tuple(number[target] for target in rows[first]) for first in firsts]
    return Judge(judge.alphabet, fresh, [at for at, first in enumerate(firsts) if first in accepted])


class ConstructorTest(unittest.TestCase):
    def check(self, error, attributes, *values, **named):
        with self.assertRaises(error) as caught:
            Judge(*values, **named)
        for name, value in attributes.items():
            self.assertEqual(getattr(caught.exception, name), value)
            self.assertIs(getattr(caught.exception, name).__class__, value.__class__)

    def test_ordinary(self):
        judge = Judge("ab", ROWS, [2, 0], start=1)
        self.assertIsInstance(judge, Machine)
        self.assertEqual((judge.alphabet, judge.start, judge.rows(), len(judge)), ("ab", 1, ROWS, 3))
        self.assertEqual(judge.accepted(), [0, 2])
        self.assertEqual(judge.after("a"), 2)
        self.assertEqual(judge.led(0, "aab"), 2)
        self.assertEqual(judge.reachable(), [0, 1, 2])
        self.assertEqual(judge.first_word(0), "aa")
        self.assertEqual(Judge.MOST, 1000)
        self.assertEqual(Judge(accepted=[1], rows=ROWS, alphabet="ab"), Judge("ab", ROWS, [1]))

    def test_accepted(self):
        for accepted, told in (([], []), ((), []), ([2, 1, 2, 0, 0], [0, 1, 2]), ((2, 2), [2]), ([1], [1])):
            found = Judge("ab", ROWS, accepted).accepted()
            self.assertEqual(found, told)
            self.assertIs(found.__class__, list)

    def test_accepted_that_is_no_list(self):
        for value in (None, True, 0, 2, "0", ""):
            self.check(InvalidState, {"given": value}, "ab", ROWS, value)

    def test_accepted_that_is_no_state(self):
        for value in (None, True, False, -1, 3, "0", [], (0,), [1]):
            self.check(InvalidState, {"given": value}, "ab", ROWS, [0, value, 7, None])
            self.check(InvalidState, {"given": value}, "ab", ROWS, (2, 0, value))

    def test_errors_of_machines_come_first(self):
        self.check(InvalidAlphabet, {"given": "ba"}, "ba", [], None, start=9)
        self.check(InvalidRows, {"at": 0}, "ab", [], None, start=9)
        self.check(TooMany, {"subject": "states", "most": 1000}, "a", ring_rows(1001), [2000])
        self.check(InvalidRows, {"at": 1}, "ab", [(0, 0), [0, 0]], [9], start=9)
        self.check(InvalidState, {"given": 9}, "ab", ROWS, [8], start=9)
        self.check(InvalidState, {"given": 9}, "ab", ROWS, None, start=9)
        self.check(InvalidState, {"given": 8}, "ab", ROWS, [8], start=2)

    def test_lists_are_copied(self):
        accepted = [0]
        rows = list(ROWS)
        judge = Judge("ab", rows, accepted)
        accepted.append(1)
        rows[0] = (0, 0)
        judge.accepted().append(2)
        self.assertEqual(judge.accepted(), [0])
        self.assertEqual(judge.rows(), ROWS)
        self.assertEqual(judge.text, Judge("ab", ROWS, [0]).text)

    def test_repr(self):
        self.assertEqual(repr(Judge("ab", ROWS, [])), "Judge(3 states)")
        self.assertEqual(repr(counting(1)), "Judge(1 states)")


class InTest(unittest.TestCase):
    def test_words(self):
        judge = Judge("ab", ROWS, [0])
        self.assertIs("" in judge, True)
        self.assertIs("a" in judge, False)
        self.assertIs("aba" in judge, False)
        self.assertIs("aabab" in judge, True)
        self.assertIs("" in Judge("ab", ROWS, [0], start=1), False)

    def test_any_value(self):
        judge = Judge("ab", [(0, 0)], [0])
        for value in ["c", "abc", "A", " ", "a\n", b"a", object(), {}, {"a"}, *[item for item in STRANGE if item != ""]]:
            self.assertIs(value in judge, False)

    def test_wrong_words_of_other_methods(self):
        with self.assertRaises(InvalidWord):
            Judge("ab", ROWS, []).after("c")


class LeastTest(unittest.TestCase):
    def test_ordinary(self):
        rows = [(0, 0), (2, 3), (1, 4), (1, 1), (2, 2)]
        least = Judge("ab", rows, [3, 4], start=1).least()
        self.assertEqual(least, Judge("ab", [(0, 1), (0, 0)], [1]))
        self.assertIs(least.__class__, Judge)

    def test_none_or_all_accepted(self):
        for accepted, told in (([], []), ([0, 1, 2], [0])):
            self.assertEqual(Judge("ab", ROWS, accepted, start=2).least(), Judge("ab", [(0, 0)], told))

    def test_accepted_but_not_reachable(self):
        self.assertEqual(Judge("a", [(1,), (0,), (2,)], [2]).least(), Judge("a", [(0,)], []))

    def test_states_are_numbered_by_first_words(self):
        judge = Judge("ab", [(2, 1), (1, 1), (2, 0)], [1], start=0)
        self.assertEqual(judge.least(), Judge("ab", [(1, 2), (1, 0), (2, 2)], [2]))

    def test_same_as_the_slower_way(self):
        for alphabet in ("a", "ab", "abcd"):
            for judge in some_judges(2, 150, alphabet, 7):
                self.assertEqual(judge.least(), plain_least(judge))

    def test_is_its_own_least(self):
        for judge in some_judges(3, 50, "ab", 9):
            self.assertEqual(judge.least().least(), judge.least())

    def test_1000_states(self):
        self.assertEqual(counting(1000).least(), counting(1000))
        twice = Judge("a", ring_rows(1000), [0, 500], start=499)
        self.assertEqual(twice.least(), counting(500, 1))


class TogetherTest(unittest.TestCase):
    def test_same_words(self):
        for alphabet in ("a", "abc"):
            words = all_words(alphabet, 5)
            judges = some_judges(4, 24, alphabet, 4)
            for one, other in itertools.product(judges[:8], judges[8:]):
                both, either, none = one & other, one | other, -one
                for word in words:
                    self.assertEqual(word in both, word in one and word in other)
                    self.assertEqual(word in either, word in one or word in other)
                    self.assertEqual(word in none, word not in one)

    def test_are_least_ones(self):
        judges = some_judges(5, 24, "ab", 5)
        for one, other in itertools.product(judges[:8], judges[8:]):
            for found in (one & other, one | other, -one):
                self.assertEqual(found, plain_least(found))
                self.assertIs(found.__class__, Judge)
                self.assertEqual(found.start, 0)
            self.assertEqual(-(-one), one.least())
            self.assertEqual(-(one & other), -one | -other)

    def test_operands_stay(self):
        one, other = Judge("ab", ROWS, [2], start=1), Judge("ab", [(0, 1), (1, 0)], [1])
        before = one.text, other.text
        self.assertEqual(one & other, one & other)
        self.assertEqual(one | other, one | other)
        self.assertEqual(-one, -one)
        one.within(other)
        self.assertEqual((one.text, other.text), before)

    def test_alphabets_differ(self):
        one = Judge("ab", ROWS, [])
        for other in (Judge("ac", ROWS, []), counting(2), Judge("abc", [(0, 0, 0)], [])):
            for call in (lambda: one & other, lambda: one | other, lambda: one.within(other), lambda: other.within(one)):
                with self.assertRaises(AlphabetsDiffer) as caught:
                    call()
                self.assertEqual(caught.exception.code, "AlphabetsDiffer")

    def test_alphabets_before_states(self):
        with self.assertRaises(AlphabetsDiffer):
            counting(1000, 0, "ab") & counting(999, 0, "ac")

    def test_at_most_1000_states(self):
        self.assertEqual(len(counting(8) & counting(125)), 1000)
        self.assertEqual(len(counting(8) | counting(125)), 1000)
        for one, other in ((counting(11), counting(91)), (counting(37), counting(29)), (counting(211), counting(199))):
            for call in (lambda: one & other, lambda: one | other):
                with self.assertRaises(TooMany) as caught:
                    call()
                self.assertEqual((caught.exception.subject, caught.exception.most), ("states", 1000))

    def test_many_pairs_but_few_states(self):
        odd = Judge("a", ring_rows(998), list(range(1, 998, 2)))
        self.assertEqual(odd & counting(2, 1), counting(2, 1))
        one, other = counting(150), counting(151)
        nothing = (-one & one) & other
        self.assertEqual(nothing, Judge("a", [(0,)], []))
        steps = [(min(state + 1, 59), state) for state in range(60)]
        turned = [(state, min(state + 1, 60)) for state in range(61)]
        below = Judge("ab", steps, [0]) & Judge("ab", turned, list(range(61)))
        self.assertEqual(below, Judge("ab", [(1, 0), (1, 1)], [0]))

    def test_within(self):
        judges = some_judges(6, 30, "ab", 3)
        words = all_words("ab", 9)
        for one, other in itertools.product(judges, judges):
            self.assertIs(one.within(other), all(word in other for word in words if word in one))
        self.assertIs(counting(6).within(other=counting(3)), True)
        self.assertIs(counting(3).within(counting(6)), False)
        self.assertIs(counting(31).within(counting(37)), False)


if __name__ == "__main__":
    unittest.main()
