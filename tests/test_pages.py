"""Pages: shelves, written and read."""

import random
import unittest

from helping import STRANGE, counting, ring, some_circuits, some_formulas, some_judges, some_machines
from onlyahead.circuits import Circuit
from onlyahead.errors import InvalidPage
from onlyahead.formulas import Formula
from onlyahead.machines import Judge, Machine
from onlyahead.pages import read_page, write_page
from onlyahead.shelf import Shelf

ROWS = [
    "= turn", "machine a 0", "1", "2", "0",
    "= odd", "judge ab 1", "1 0", "0 1 *",
    "= wires", "circuit ab", "const 5",
    "= past", "formula a yes", "is -", "not 0",
]
PAGE = "".join(row + "\n" for row in ROWS)
HEADS = [0, 5, 9, 12]
NAMES = "abcdefghijklmnopqrst"


def filled():
    shelf = Shelf()
    shelf["turn"] = ring(3)
    shelf["odd"] = Judge("ab", [(1, 0), (0, 1)], [1], start=1)
    shelf["wires"] = Circuit("ab", [("const", 5)])
    shelf["past"] = Formula("a", [("is", ""), ("not", 0)], first=True)
    return shelf


def page_of(rows):
    return "".join(row + "\n" for row in rows)


class WriteTest(unittest.TestCase):
    def test_ordinary(self):
        self.assertEqual(write_page(filled()), PAGE)
        self.assertEqual(write_page(shelf=filled()), PAGE)

    def test_empty(self):
        self.assertEqual(write_page(Shelf()), "")

    def test_order_and_new_names(self):
        shelf = filled()
        shelf.rename("turn", "z")
        shelf.remove("odd")
        shelf["a"] = counting(2)
        self.assertEqual(write_page(shelf), page_of(["= z", *ROWS[1:5], *ROWS[9:], "= a", "judge a 0", "1 *", "0"]))


class ReadTest(unittest.TestCase):
    def test_ordinary(self):
        shelf = read_page(PAGE)
        self.assertIs(shelf.__class__, Shelf)
        self.assertEqual(shelf, filled())
        self.assertEqual([shelf.kind(name) for name in shelf.names()], ["machine", "judge", "circuit", "formula"])
        self.assertEqual(read_page(text=PAGE), shelf)

    def test_empty(self):
        self.assertEqual(read_page(""), Shelf())
        self.assertEqual(len(read_page("")), 0)

    def test_without_steps_and_kept_differences(self):
        shelf = filled()
        shelf["even"] = -shelf["odd"]
        shelf.difference("odd", "even")
        again = read_page(write_page(shelf))
        self.assertEqual(again, shelf)
        self.assertEqual((again.history(), again.kept(), again.computed), ((0, 0), [], 0))
        again.remove("turn")
        self.assertEqual(again.difference("odd", "even"), "")
        again.undo()
        self.assertEqual((again, again.history(), again.computed), (shelf, (0, 1), 1))

    def test_there_and_back(self):
        chance = random.Random(81)
        for alphabet in ("a", "bd", "abcd"):
            things = [
                *some_judges(82, 10, alphabet, 6), *some_machines(83, 10, alphabet, 6), *some_circuits(84, 10, alphabet, 9),
                *some_formulas(85, 10, alphabet, 9),
            ]
            for _ in range(10):
                shelf = Shelf()
                for name in chance.sample(NAMES, chance.randint(1, 20)):
                    shelf[name * chance.randint(1, 8)] = chance.choice(things)
                page = write_page(shelf)
                self.assertEqual(read_page(page), shelf)
                self.assertEqual(read_page(page).names(), shelf.names())
                self.assertEqual(write_page(read_page(page)), page)

    def test_twenty_things(self):
        rows = [row for name in NAMES for row in ("= " + name, "circuit a", "const 0")]
        self.assertEqual(read_page(page_of(rows)).names(), list(NAMES))


class WrongPageTest(unittest.TestCase):
    def check(self, row, text):
        with self.assertRaises(InvalidPage) as caught:
            read_page(text)
        self.assertEqual((caught.exception.row, caught.exception.code), (row, "InvalidPage"), text)

    def check_rows(self, row, rows):
        """A page with a wrong row, also where its last row lacks its line feed: this row is wrong, too."""
        self.check(row, page_of(rows))
        if rows[-1] != "":
            self.check(min(row, len(rows) - 1), page_of(rows)[:-1])

    def test_no_strings(self):
        for value in STRANGE:
            if not isinstance(value, str):
                self.check(0, value)
        self.check(0, PAGE.encode())
        self.check(0, ROWS)

    def test_the_beginning(self):
        for row in ["", " ", "turn", " = turn", "machine a 0", "const 0", "-", "#", "x = turn", "\r"]:
            self.check_rows(0, [row])
            self.check_rows(0, [row, *ROWS])
            self.check_rows(0, [row, *ROWS[1:]])
        self.check(0, "\n")
        self.check(0, "\n\n")
        self.check(0, " ")

    def test_wrong_names(self):
        for head in [
            "=", "= ", "=turn", "=  turn", "= turn ", "= Turn", "= t1", "= abcdefghi", "= a b", "= \u00e9", "== turn", "= =", "=\tturn",
            "= turn\r", "= -", "=x",
        ]:
            for at in HEADS:
                self.check_rows(at, [*ROWS[:at], head, *ROWS[at + 1:]])
                self.check_rows(at, [*ROWS[:at], head, *ROWS[at:]])
            self.check_rows(16, [*ROWS, head])
            # A text above it ends here, even where a row less makes the text wrong by itself.
            self.check_rows(1, [*ROWS[:2], head])
            self.check_rows(1, [*ROWS[:3], head, *ROWS[3:]])

    def test_names_twice(self):
        self.check_rows(5, [*ROWS[:5], "= turn", *ROWS[6:]])
        self.check_rows(12, [*ROWS[:12], "= odd", *ROWS[13:]])
        self.check_rows(16, [*ROWS, *ROWS])
        self.check_rows(16, [*ROWS, "= past"])
        # The text ahead of the second row is wrong earlier.
        self.check_rows(4, [*ROWS[:4], "x", "= turn", *ROWS[6:]])

    def test_the_21st_name(self):
        rows = [row for name in NAMES for row in ("= " + name, "circuit a", "const 0")]
        self.check_rows(60, [*rows, "= u", "circuit a", "const 0"])
        self.check_rows(60, [*rows, "= u"])
        self.check_rows(60, [*rows, "= a", "circuit a", "const 0"])
        self.check_rows(60, [*rows, "=", "circuit a", "const 0"])
        self.check_rows(59, [*rows[:59], "const 1000", "= u", "circuit a", "const 0"])

    def test_no_kind(self):
        for row in ["", " ", "x", "Machine a 0", "machines a 0", " machine a 0", "shelf", "*", "0", "const 0", "machine\ta 0"]:
            for at in HEADS:
                self.check_rows(at + 1, [*ROWS[: at + 1], row, *ROWS[at + 2:]])
                self.check_rows(at + 1, [*ROWS[: at + 1], row, *ROWS[at + 1:]])

    def test_wrong_first_rows(self):
        for row in ["machine", "judge", "circuit", "formula", "machine a", "judge a", "circuit", "circuit ba", "formula a", "formula a maybe"]:
            for at in HEADS:
                self.check_rows(at + 1, [*ROWS[: at + 1], row, *ROWS[at + 2:]])

    def test_other_kinds(self):
        self.check_rows(2, ["= x", "machine a 0", "0 *"])
        self.check_rows(2, ["= x", "circuit a", "0"])
        self.check_rows(2, ["= x", "formula a no", "const 0"])
        self.check_rows(1, ["= x", "machine a 1", "0"])
        self.check_rows(1, ["= x", "judge a 0", "1 *"])
        self.check_rows(2, ["= x", "circuit a", "letter"])

    def test_rows_bent(self):
        for at in range(len(ROWS)):
            if at not in HEADS and at - 1 not in HEADS:
                for row in (ROWS[at] + " ", " " + ROWS[at], ROWS[at] + " x", "x", "", ROWS[at].upper() + "-", "-1"):
                    self.check_rows(at, [*ROWS[:at], row, *ROWS[at + 1:]])
                    self.check_rows(at, [*ROWS[:at], row, *ROWS[at:]])

    def test_a_blank_row(self):
        for at in range(1, len(ROWS)):
            if at not in HEADS:
                self.check_rows(at, [*ROWS[:at], "", *ROWS[at:]])
        # Ahead of a name it belongs to the text above.
        for at in HEADS[1:]:
            self.check_rows(at, [*ROWS[:at], "", *ROWS[at:]])
        self.check(16, PAGE + "\n")

    def test_rows_doubled_and_left_out(self):
        # A state too few, a start that is no state, a row of another kind, a line that is not there.
        self.check_rows(1, [*ROWS[:4], *ROWS[5:]])
        self.check_rows(6, [*ROWS[:8], *ROWS[9:]])
        self.check_rows(10, [*ROWS[:11], *ROWS[12:]])
        self.check_rows(14, [*ROWS[:14], *ROWS[15:]])
        self.check_rows(13, ROWS[:14])
        self.check_rows(2, [*ROWS[:2], *ROWS[1:]])
        self.check_rows(1, [*ROWS[:1], *ROWS])
        self.check_rows(5, [*ROWS[:5], *ROWS[6:]])

    def test_the_last_line_feed(self):
        self.check(15, PAGE[:-1])
        self.check(4, page_of(ROWS[:5])[:-1])
        self.check(8, page_of(ROWS[:9])[:-1])
        self.check(11, page_of(ROWS[:12])[:-1])
        self.check(15, PAGE[:-2])
        self.check(16, PAGE + " ")
        self.check(16, PAGE + "x")
        self.check(2, "= a\ncircuit a\nconst 0")

    def test_earlier_rows_come_first(self):
        self.check(2, page_of([*ROWS[:2], "x", *ROWS[3:]])[:-1])
        self.check(1, "= a\nmachine a 1\n0")
        self.check(1, "= a\nmachine a 0\n1")
        self.check(0, "=\nmachine a 0\n0")
        self.check(1, "= a\nmachine a 0")
        self.check(1, "= a\nx")

    def test_a_name_at_the_end(self):
        self.check(17, PAGE + "= x\n")
        self.check(16, PAGE + "= x")
        self.check(1, "= x\n")
        self.check(0, "= x")
        self.check(16, PAGE + "= turn\n")
        self.check(16, PAGE + "= turn")
        self.check(16, PAGE + "=\n")
        self.check(16, PAGE + "=")
        self.check(18, PAGE + "= x\ncircuit a\n\n")
        self.check(17, PAGE + "= x\n= y\n")
        self.check(17, PAGE + "= x\n= y")
        self.check(3, page_of([*ROWS[:3], "x", "= x"]))

    def test_names_without_texts(self):
        self.check_rows(1, ["= a", "= b", "circuit a", "const 0"])
        self.check_rows(1, ["= a", "= a", "circuit a", "const 0"])
        self.check_rows(4, ["= a", "circuit a", "const 0", "= b", "= c", "circuit a", "const 0"])
        self.check_rows(1, ["= a", "=", "circuit a", "const 0"])


if __name__ == "__main__":
    unittest.main()
