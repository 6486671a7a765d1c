"""The texts of formulas."""

import unittest

from helping import STRANGE, some_formulas
from onlyahead.errors import InvalidText
from onlyahead.formulas import Formula
from test_circuit_texts import BAD_NUMBERS

LINES = [
    ("is", "ac"),
    ("is", ""),
    ("not", 1),
    ("and", ()),
    ("or", ()),
    ("and", (0,)),
    ("or", (0, 2, 5)),
    ("before", 6),
    ("since", 7, 0),
    ("count", 8, 97, 96),
]
ROWS = [
    "formula abc yes", "is ac", "is -", "not 1", "and", "or", "and 0", "or 0 2 5", "before 6", "since 7 0", "count 8 97 96",
]
TEXT = "\n".join(ROWS)


class WriteTest(unittest.TestCase):
    def test_ordinary(self):
        self.assertEqual(Formula("abc", LINES, first=True).text, TEXT)
        self.assertEqual(Formula("abc", LINES).text, TEXT.replace("yes", "no"))
        self.assertEqual(Formula("z", [("is", "z")]).text, "formula z no\nis z")

    def test_great_refs(self):
        formula = Formula("a", [("is", "a")] * 3998 + [("and", tuple(range(3998))), ("not", 3998)])
        rows = formula.text.split("\n")
        self.assertEqual(rows[-2:], ["and " + " ".join(str(at) for at in range(3998)), "not 3998"])


class ReadTest(unittest.TestCase):
    def test_ordinary(self):
        formula = Formula.read(TEXT)
        self.assertEqual((formula.alphabet, formula.lines(), formula.first), ("abc", LINES, True))
        self.assertIs(formula.first, True)
        self.assertIs(formula.__class__, Formula)
        self.assertIs(Formula.read(TEXT.replace("yes", "no")).first, False)
        self.assertEqual(Formula.read(text=TEXT), formula)

    def test_there_and_back(self):
        for alphabet in ("a", "bd", "abcd"):
            for formula in some_formulas(11, 60, alphabet, 20):
                again = Formula.read(formula.text)
                self.assertEqual(again, formula)
                self.assertEqual(again.text, formula.text)

    def test_4000_lines(self):
        formula = Formula("a", [("is", "a")] + [("not", at) for at in range(3999)])
        self.assertEqual(Formula.read(formula.text), formula)


class WrongTextTest(unittest.TestCase):
    def check(self, row, text):
        with self.assertRaises(InvalidText) as caught:
            Formula.read(text)
        self.assertEqual((caught.exception.row, caught.exception.code), (row, "InvalidText"), text)

    def check_line(self, line):
        """A line that is wrong behind five lines, also with a right one or another wrong one behind it."""
        for behind in ([], ["is a"], ["x"], [""]):
            self.check(6, "\n".join([*ROWS[:6], line, *behind]))

    def test_no_strings(self):
        for value in STRANGE:
            if value != "":
                self.check(0, value)
        self.check(0, ROWS)
        self.check(0, TEXT.encode())

    def test_first_row(self):
        for first in [
            "", "formula", "formula abc", "formula abc yes ", " formula abc yes", "formula  abc yes", "formula abc  yes",
            "formula abc Yes", "formula abc true", "formula abc 1", "formula abc no no", "formula ba yes", "formula aa yes",
            "formula abcde yes", "formula ABC yes", "formula - yes", "formula yes abc", "Formula abc yes", "machine abc 0",
            "judge abc 0", "circuit abc", "formulas abc yes", "= formula",
        ]:
            self.check(0, "\n".join([first, "is a"]))
            self.check(0, "\n".join([first, "x"]))

    def test_no_lines(self):
        self.check(0, "formula abc yes")
        self.check(0, "")
        self.check(1, "formula abc yes\n")

    def test_other_texts(self):
        self.check(0, "circuit ab\nconst 0")
        self.check(0, "machine ab 0\n0 0")

    def test_wrong_lines(self):
        for line in [
            "", " ", "is", "is ", "is  a", "is a ", " is a", "is ba", "is aa", "is d", "is A", "is a b", "is --", "is - -", "is -a",
            "is 0", "IS a", "isa", "not", "not ", "not 5", "not 6", "not 0 0", "not -1", "not a", "not  0", "not 0 ", "and 5",
            "and 1 0", "and 0 0", "and 0  1", "and ", "and -", "and 0,1", "or 5", "or 1 0", "or 0 0", "or ", "or x", "before",
            "before 5", "before 0 1", "before -", "since", "since 0", "since 0 5", "since 5 0", "since 0 1 2", "count 0 2",
            "count 0 2 2", "count 0 4 0", "count 0 1 0", "count 0 98 0", "count 0 101 0", "count 5 2 0", "count 0 2 0 0", "count",
            "xor 0 1", "const 0", "letter", "yes", "*", "not 0\r", "not\t0", "0", "formula abc yes",
        ]:
            self.check_line(line)

    def test_wrong_numbers(self):
        for word in BAD_NUMBERS:
            for line in ["not {}", "before {}", "and {}", "or 0 {}", "since {} 0", "since 0 {}", "count {} 2 0", "count 0 {} 0", "count 0 2 {}"]:
                self.check_line(line.replace("{}", word))

    def test_last_line_feed(self):
        self.check(len(ROWS), TEXT + "\n")
        self.check(1, "formula abc yes\n\nis a")

    def test_too_many_lines(self):
        rows = ["formula a no"] + ["is a"] * 4001
        self.check(0, "\n".join(rows))
        # A row that is wrong is told all the same.
        self.check(4001, "\n".join(rows[:4001] + ["not 4000"]))
        self.check(3, "\n".join(rows[:3] + ["x"] + rows[3:]))


if __name__ == "__main__":
    unittest.main()
