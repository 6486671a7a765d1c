"""Formulas: lines, truths, what they accept, and how they are put together."""

import itertools
import random
import unittest

from helping import STRANGE, all_words, some_formulas
from onlyahead.circuits import Circuit
from onlyahead.errors import AlphabetsDiffer, InvalidAlphabet, InvalidLine, InvalidWord, TooMany
from onlyahead.formulas import Formula

# An a, and an odd number of a so far; or ahead of it a b, since which there was no c.
LINES = [
    ("is", "a"),
    ("count", 0, 2, 1),
    ("and", (0, 1)),
    ("is", "b"),
    ("is", "c"),
    ("not", 4),
    ("since", 5, 3),
    ("before", 6),
    ("or", (2, 7)),
]


def plain_truth(lines, word, moment, at, known):
    """The truth of a line at a moment, by the words of the document."""
    if (moment, at) not in known:
        known[moment, at] = plain_kind(lines[at], lambda when, ref: plain_truth(lines, word, when, ref, known), word, moment)
    return known[moment, at]


def plain_kind(line, true, word, moment):
    kind, *parts = line
    if kind == "is":
        return word[moment] in parts[0]
    if kind == "not":
        return not true(moment, parts[0])
    if kind == "and":
        return all(true(moment, ref) for ref in parts[0])
    if kind == "or":
        return any(true(moment, ref) for ref in parts[0])
    if kind == "before":
        return moment > 0 and true(moment - 1, parts[0])
    if kind == "since":
        held, begun = parts
        return any(
            true(when, begun) and all(true(behind, held) for behind in range(when + 1, moment + 1))
            for when in range(moment + 1)
        )
    counted, prime, rest = parts
    return sum(true(when, counted) for when in range(moment + 1)) % prime == rest


def plain_truths(formula, word):
    """The list of the truths of all lines for each moment of a word."""
    lines, known = formula.lines(), {}
    # Earlier moments and lines come first, so that no truth waits for many others.
    return [[plain_truth(lines, word, moment, at, known) for at in range(len(lines))] for moment in range(len(word))]


class MakeTest(unittest.TestCase):
    def test_ordinary(self):
        formula = Formula("abc", LINES)
        self.assertEqual((formula.alphabet, formula.first, len(formula)), ("abc", False, 9))
        self.assertEqual(formula.lines(), LINES)
        self.assertEqual(Formula.MOST, 4000)
        self.assertEqual(formula.MOST, 4000)
        self.assertEqual(repr(formula), "Formula(9 lines)")
        self.assertEqual(repr(Formula("a", [("is", "a")])), "Formula(1 lines)")

    def test_first(self):
        self.assertIs(Formula("a", [("is", "a")], first=True).first, True)
        self.assertIs(Formula("a", [("is", "a")], first=False).first, False)
        self.assertIs(Formula("a", [("is", "a")]).first, False)
        with self.assertRaises(TypeError):
            Formula("a", [("is", "a")], True)

    def test_by_name(self):
        self.assertEqual(Formula(lines=LINES, alphabet="abc", first=True), Formula("abc", LINES, first=True))
        self.assertEqual(Formula("abc", LINES).truths(word="a"), Formula("abc", LINES).truths("a"))

    def test_tuple_and_copies(self):
        lines = list(LINES)
        formula = Formula("abc", lines)
        self.assertEqual(Formula("abc", tuple(LINES)), formula)
        lines.append("x")
        self.assertEqual(formula.lines(), LINES)
        formula.lines().append("x")
        formula.truths("a").append("x")
        self.assertEqual((formula.lines(), len(formula.truths("a"))), (LINES, 9))

    def test_properties_stay(self):
        formula = Formula("abc", LINES)
        for name in ("alphabet", "first", "text"):
            with self.assertRaises(AttributeError):
                setattr(formula, name, True)

    def test_wrong_alphabet_comes_first(self):
        for alphabet in STRANGE[:7] + ["ba", "abcde", "A", "aa"]:
            with self.assertRaises(InvalidAlphabet) as caught:
                Formula(alphabet, [])
            self.assertEqual(caught.exception.given, alphabet)

    def test_no_lines(self):
        for lines in [None, True, 3, "", "is", [], (), {}]:
            with self.assertRaises(InvalidLine) as caught:
                Formula("a", lines)
            self.assertEqual(caught.exception.at, 0)

    def test_too_many(self):
        self.assertEqual(len(Formula("a", [("is", "a")] * 4000)), 4000)
        for lines in ([("is", "a")] * 4001, ["x"] * 4001, tuple(["x"] * 5000)):
            with self.assertRaises(TooMany) as caught:
                Formula("a", lines)
            self.assertEqual((caught.exception.subject, caught.exception.most), ("lines", 4000))

    def test_equality(self):
        formula = Formula("abc", LINES)
        self.assertEqual(formula, Formula("abc", LINES))
        self.assertNotEqual(formula, Formula("abc", LINES, first=True))
        self.assertNotEqual(formula, Formula("abcd", LINES))
        self.assertNotEqual(formula, Formula("abc", LINES[:8]))
        self.assertNotEqual(formula, Circuit("abc", [("const", 0)]))
        for value in [None, LINES, formula.text, "abc", 9]:
            self.assertFalse(formula == value)
            self.assertTrue(formula != value)


class LineTest(unittest.TestCase):
    def stands(self, line):
        try:
            Formula("abc", [("is", "a"), ("is", "b"), line, ("is", "")])
        except InvalidLine as wrong:
            self.assertEqual(wrong.at, 2, line)
            return False
        return True

    def test_right_lines(self):
        for letters in ("", "a", "b", "c", "ab", "ac", "bc", "abc"):
            self.assertTrue(self.stands(("is", letters)))
        for refs in ((), (0,), (1,), (0, 1)):
            self.assertTrue(self.stands(("and", refs)))
            self.assertTrue(self.stands(("or", refs)))
        for line in [("not", 0), ("not", 1), ("before", 0), ("before", 1), ("since", 0, 0), ("since", 1, 0), ("since", 0, 1)]:
            self.assertTrue(self.stands(line))
        for prime in (2, 3, 5, 53, 97):
            self.assertTrue(self.stands(("count", 1, prime, 0)))
            self.assertTrue(self.stands(("count", 0, prime, prime - 1)))

    def test_wrong_letters(self):
        for letters in ["d", "ba", "aa", "aab", "abcd", "A", " ", "-", "a ", "\n", None, True, 0, ("a",), ["a"], []]:
            self.assertFalse(self.stands(("is", letters)), letters)

    def test_wrong_refs(self):
        for ref in [2, 3, -1, None, True, False, "0", "", (0,), [0], [], 10 ** 9]:
            for line in [("not", ref), ("before", ref), ("since", ref, 0), ("since", 0, ref), ("count", ref, 2, 0)]:
                self.assertFalse(self.stands(line), line)
            for kind in ("and", "or"):
                self.assertFalse(self.stands((kind, (ref,))), (kind, ref))
                self.assertFalse(self.stands((kind, (0, ref))), (kind, ref))
        for kind in ("and", "or"):
            for refs in [(1, 0), (0, 0), (1, 1), (0, 1, 1), [0, 1], [], None, 0, "", "01", (0, 1, 2)]:
                self.assertFalse(self.stands((kind, refs)), (kind, refs))

    def test_wrong_counts(self):
        for prime in [0, 1, 4, 6, 9, 91, 98, 99, 101, -2, None, True, "2", (2,), [2]]:
            self.assertFalse(self.stands(("count", 0, prime, 0)), prime)
        for rest in [5, 6, -1, None, True, False, "0", (0,), [0]]:
            self.assertFalse(self.stands(("count", 0, 5, rest)), rest)

    def test_wrong_forms(self):
        for line in STRANGE:
            self.assertFalse(self.stands(line), line)
        for line in [
            ("is",), ("is", "a", "b"), ("not",), ("not", 0, 1), ("and",), ("and", 0, 1), ("and", (0,), (1,)), ("or",),
            ("before",), ("before", 0, 0), ("since",), ("since", 0), ("since", 0, 0, 0), ("since", (0, 1)),
            ("count", 0, 2), ("count", 0, 2, 0, 0), ("count", (0, 2, 0)), ("IS", "a"), ("is ", "a"), ("xor", (0, 1)),
            ("counter", 0, 2, 0), ("nots", 0), ("sinces", 0, 0), ("const", 0), ("letter",), (None, 0), (True,), (["is"], "a"), (("is", "a"),), ["is", "a"], ["not", 0], "is a",
        ]:
            self.assertFalse(self.stands(line), line)

    def test_first_wrong_line_is_told(self):
        lines = [("is", "a")] * 6
        for at, later in itertools.combinations(range(6), 2):
            wrong = list(lines)
            wrong[at] = ("not", at)
            wrong[later] = None
            with self.assertRaises(InvalidLine) as caught:
                Formula("ab", wrong)
            self.assertEqual(caught.exception.at, at)
        with self.assertRaises(InvalidLine) as caught:
            Formula("a", [("before", 0)])
        self.assertEqual(caught.exception.at, 0)


class TruthTest(unittest.TestCase):
    def test_ordinary(self):
        formula = Formula("abc", LINES)
        self.assertEqual(formula.truths("a"), [True, True, True, False, False, True, False, False, True])
        self.assertEqual(formula.truths("b"), [False, False, False, True, False, True, True, False, False])
        self.assertEqual(formula.truths("ba"), [True, True, True, False, False, True, True, True, True])
        self.assertEqual(formula.truths("bca"), [True, True, True, False, False, True, False, False, True])
        self.assertEqual(formula.truths("bcaa"), [True, False, False, False, False, True, False, False, False])

    def test_truths_are_booleans(self):
        for formula in some_formulas(1, 60, "ab", 10):
            for truth in formula.truths("abba"):
                self.assertIn(truth, (True, False))
                self.assertIsInstance(truth, bool)

    def test_against_the_words_of_the_document(self):
        for alphabet, length in (("a", 8), ("ab", 5), ("abd", 3)):
            for formula in some_formulas(2, 60, alphabet, 10):
                for word in all_words(alphabet, length)[1:]:
                    self.assertEqual(formula.truths(word), plain_truths(formula, word)[-1], (formula.text, word))

    def test_before(self):
        formula = Formula("ab", [("is", "a"), ("before", 0), ("before", 1), ("not", 1)])
        self.assertEqual(formula.truths("a"), [True, False, False, True])
        self.assertEqual(formula.truths("aa"), [True, True, False, False])
        self.assertEqual(formula.truths("aab"), [False, True, True, False])
        self.assertEqual(formula.truths("aabb"), [False, False, True, True])

    def test_since(self):
        formula = Formula("abc", [("is", "a"), ("is", "b"), ("since", 0, 1)])
        for word in all_words("abc", 5)[1:]:
            # The last letter that is no a is a b.
            self.assertEqual(formula.truths(word)[2], word.rstrip("a").endswith("b"), word)

    def test_since_over_itself_and_over_nothing(self):
        formula = Formula("ab", [("is", "a"), ("since", 0, 0), ("and", ()), ("or", ()), ("since", 2, 0), ("since", 3, 0), ("since", 2, 3)])
        for word in all_words("ab", 5)[1:]:
            now = word[-1] == "a"
            self.assertEqual(formula.truths(word), [now, now, True, False, "a" in word, now, False], word)

    def test_great_counts(self):
        chance = random.Random(3)
        for prime in (89, 97, 53):
            lines = [("is", "ab"), ("is", "b"), ("count", 0, prime, 7), ("count", 1, prime, prime - 1), ("before", 2)]
            formula = Formula("abc", lines + [("count", 4, prime, 1), ("since", 0, 3)])
            word = "".join(chance.choice("aaabbbbc") for _ in range(200))
            told = plain_truths(formula, word)
            for end in range(1, 201):
                self.assertEqual(formula.truths(word[:end]), told[end - 1])
            many = "b" * (prime + 7)
            self.assertEqual(formula.truths(many)[2], True)
            self.assertEqual(formula.truths(many[:-1])[2], False)
            self.assertEqual(formula.truths(many[:7])[2], True)

    def test_wrong_words(self):
        formula = Formula("ab", [("is", "a")])
        for word in STRANGE + ["c", "abc", "A", "a b", " ", ["a", "b"], 12, b"a"]:
            with self.assertRaises(InvalidWord) as caught:
                formula.truths(word)
            self.assertEqual(caught.exception.given, word)

    def test_a_word_of_4000_letters(self):
        formula = Formula("ab", [("is", "a"), ("count", 0, 97, 4000 - 41 * 97)])
        self.assertIn("a" * 4000, formula)


class AcceptTest(unittest.TestCase):
    def test_ordinary(self):
        formula = Formula("abc", LINES)
        told = [word for word in all_words("abc", 2) if word in formula]
        self.assertEqual(told, ["a", "ba", "bb", "bc", "ca"])

    def test_last_line_and_first(self):
        for formula in some_formulas(4, 60, "ab", 8):
            self.assertIs("" in formula, formula.first)
            for word in all_words("ab", 4)[1:]:
                self.assertIs(word in formula, formula.truths(word)[-1])

    def test_first_is_for_the_empty_word_only(self):
        one = Formula("a", [("is", "a")])
        other = Formula("a", [("is", "")], first=True)
        self.assertEqual([word in one for word in ("", "a", "aa")], [False, True, True])
        self.assertEqual([word in other for word in ("", "a", "aa")], [True, False, False])

    def test_values_that_are_no_words(self):
        formula = Formula("ab", [("and", ())], first=True)
        for value in STRANGE + ["c", "A", "ab ", " ", b"a", {}, 12]:
            if value != "":
                self.assertIs(value in formula, False, value)


class TogetherTest(unittest.TestCase):
    def test_lines(self):
        one = Formula("ab", [("is", "a"), ("not", 0)])
        other = Formula("ab", [
            ("is", "b"), ("not", 0), ("and", (0, 1)), ("or", ()), ("or", (2,)), ("before", 4), ("since", 0, 5), ("count", 6, 5, 3),
        ])
        moved = [
            ("is", "b"), ("not", 2), ("and", (2, 3)), ("or", ()), ("or", (4,)), ("before", 6), ("since", 2, 7), ("count", 8, 5, 3),
        ]
        self.assertEqual((one & other).lines(), one.lines() + moved + [("and", (1, 9))])
        self.assertEqual((one | other).lines(), one.lines() + moved + [("or", (1, 9))])
        self.assertEqual((-other).lines(), other.lines() + [("not", 7)])
        self.assertEqual((one & one).lines(), [("is", "a"), ("not", 0), ("is", "a"), ("not", 2), ("and", (1, 3))])

    def test_what_they_accept(self):
        for one, other in zip(some_formulas(5, 40, "ab", 7), some_formulas(6, 40, "ab", 7)):
            both, either, none = one & other, one | other, -one
            for word in all_words("ab", 4):
                self.assertIs(word in both, word in one and word in other)
                self.assertIs(word in either, word in one or word in other)
                self.assertIs(word in none, word not in one)
            self.assertIs(both.__class__, Formula)

    def test_firsts(self):
        yes, no = Formula("a", [("is", "")], first=True), Formula("a", [("is", "")])
        self.assertEqual([(yes & yes).first, (yes & no).first, (no & yes).first, (no & no).first], [True, False, False, False])
        self.assertEqual([(yes | yes).first, (yes | no).first, (no | yes).first, (no | no).first], [True, True, True, False])
        self.assertEqual([(-yes).first, (-no).first], [False, True])

    def test_nothing_changes(self):
        one, other = Formula("ab", [("is", "a")]), Formula("ab", [("is", "b")])
        one & other, one | other, -one
        self.assertEqual((one.lines(), other.lines()), ([("is", "a")], [("is", "b")]))

    def test_alphabets(self):
        one, other = Formula("ab", [("is", "a")] * 4000), Formula("abc", [("is", "a")] * 4000)
        for call in (lambda: one & other, lambda: one | other, lambda: other & one, lambda: other | one):
            with self.assertRaises(AlphabetsDiffer):
                call()

    def test_too_many(self):
        lines = [("is", "a")]
        one, other = Formula("a", lines * 3000), Formula("a", lines * 999)
        self.assertEqual((len(one & other), len(one | other), len(-Formula("a", lines * 3999))), (4000, 4000, 4000))
        for call in (
            lambda: one & Formula("a", lines * 1000),
            lambda: Formula("a", lines * 1000) | one,
            lambda: one & one,
            lambda: -Formula("a", lines * 4000),
        ):
            with self.assertRaises(TooMany) as caught:
                call()
            self.assertEqual((caught.exception.subject, caught.exception.most), ("lines", 4000))


if __name__ == "__main__":
    unittest.main()
