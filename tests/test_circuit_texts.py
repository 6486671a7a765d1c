"""The texts of circuits."""

import unittest

from helping import STRANGE, all_words, some_circuits
from onlyahead.circuits import Circuit
from onlyahead.errors import InvalidText

LINES = [
    ("letter",),
    ("wire", 0, (1, 0)),
    ("latch", 2, 1, 1),
    ("const", 12),
    ("counter", 97, 96, 3),
    ("join", 2, 0, ((0, 10), (999, 3))),
    ("wire", 2, (7, 30)),
]
ROWS = ["circuit ab", "letter", "wire 0 1 0", "latch 2 1 1", "const 12", "counter 97 96 3", "join 2 0 0,10 999,3", "wire 2 7 30"]
TEXT = "\n".join(ROWS)
BAD_NUMBERS = ["00", "01", "-1", "+1", "1.0", "1e0", "1_0", "x", "", "\u0661", "\u00b2", "1000000000", "0000000001", "True", "*", "0,", ","]


class WriteTest(unittest.TestCase):
    def test_ordinary(self):
        self.assertEqual(Circuit("ab", LINES).text, TEXT)
        self.assertEqual(Circuit("z", [("const", 0)]).text, "circuit z\nconst 0")

    def test_each_kind_of_line(self):
        told = {
            "const 999": ("const", 999),
            "letter": ("letter",),
            "wire 2 5": ("wire", 2, (5,)),
            "wire 0 10 20": ("wire", 0, (10, 20)),
            "wire 1 0 1 2": ("wire", 1, (0, 1, 2)),
            "join 2 2 9": ("join", 2, 2, ((9,),)),
            "join 0 2 9 8": ("join", 0, 2, ((9,), (8,))),
            "join 2 0 9,8": ("join", 2, 0, ((9, 8),)),
            "join 0 1 0,1,2 3,4,500": ("join", 0, 1, ((0, 1, 2), (3, 4, 500))),
            "latch 999 998 1": ("latch", 999, 998, 1),
            "counter 2 0 0": ("counter", 2, 0, 0),
        }
        for row, line in told.items():
            circuit = Circuit("ab", [("letter",), ("const", 2), ("const", 0), line, ("const", 1)])
            text = "\n".join(["circuit ab", "letter", "const 2", "const 0", row, "const 1"])
            self.assertEqual(circuit.text, text)
            self.assertEqual(Circuit.read(text), circuit)
            self.assertEqual(Circuit.read(text).lines()[3], line)


class ReadTest(unittest.TestCase):
    def test_ordinary(self):
        circuit = Circuit.read(TEXT)
        self.assertEqual((circuit.alphabet, circuit.lines()), ("ab", LINES))
        self.assertIs(circuit.__class__, Circuit)
        self.assertEqual(circuit, Circuit("ab", LINES))
        self.assertEqual(circuit.after("ab"), Circuit("ab", LINES).after("ab"))

    def test_there_and_back(self):
        for alphabet in ("a", "bd", "abcd"):
            for circuit in some_circuits(41, 40, alphabet, 20):
                again = Circuit.read(circuit.text)
                self.assertEqual(again, circuit)
                self.assertEqual((again.text, again.listing()), (circuit.text, circuit.listing()))
                for word in all_words(alphabet, 2):
                    self.assertEqual(again.after(word), circuit.after(word))

    def test_4000_lines(self):
        circuit = Circuit("a", [("const", at // 4) for at in range(4000)])
        self.assertEqual(Circuit.read(circuit.text), circuit)

    def test_great_tables(self):
        table = tuple(tuple((one * other) % 1000 for other in range(300)) for one in range(400))
        circuit = Circuit("a", [("const", 399), ("const", 299), ("join", 0, 1, table), ("wire", 2, tuple(range(999, -1, -1)))])
        self.assertEqual(Circuit.read(circuit.text), circuit)


class WrongTextTest(unittest.TestCase):
    def check(self, row, text):
        with self.assertRaises(InvalidText) as caught:
            Circuit.read(text)
        self.assertEqual(caught.exception.row, row, repr(text))
        self.assertEqual(caught.exception.code, "InvalidText")

    def refused(self, row, ahead=("letter", "const 2", "const 0")):
        """The row is told, as the last one and ahead of others that are wrong."""
        rows = ["circuit ab", *ahead, row]
        for behind in ([], ["const 0"], ["letter"], ["x", "const 1000"]):
            self.check(len(rows) - 1, "\n".join(rows + behind))

    def test_no_string(self):
        for value in [b"circuit a\nconst 0", ["circuit a", "const 0"], LINES, *STRANGE]:
            self.check(0, value)

    def test_other_kind(self):
        for text in ("machine ab 0\n0 0", "judge a 0\n0 *", "formula ab no\nis a", "Circuit a\nconst 0", "circuits a\nconst 0", "= ab\nconst 0"):
            self.check(0, text)

    def test_first_row(self):
        heads = ["", "circuit", "circuit ", "circuit  a", " circuit a", "circuit a ", "circuit a 0", "circuit a b", "circuit\ta", "circuita", "letter"]
        heads += ["circuit ba", "circuit aa", "circuit a1", "circuit AB", "circuit abcde", "circuit a\u00e9", "circuit ab\r", "circuit 0", "circuit -"]
        for head in heads:
            for rest in ("\nconst 0", "\nx", "", "\n"):
                self.check(0, head + rest)

    def test_no_line(self):
        self.check(0, "circuit ab")
        self.check(1, "circuit ab\n")
        self.check(1, "circuit ab\n\nconst 0")

    def test_one_row_bent(self):
        bent = ["", " ", "x", "const", "const ", "const  0", " const 0", "const 0 ", "const 0 0", "Const 0", "const\t0", "const 0\r", "consts 0", "0", "0 const"]
        bent += ["letter ", " letter", "letter 0", "letter a", "letters", "Letter", "circuit ab", "= ab", "is a", "not 0", "before 0", "- 0", "const,0"]
        for at in range(1, len(ROWS)):
            for row in bent:
                parts = list(ROWS)
                parts[at] = row
                self.check(at, "\n".join(parts))
                self.check(at, "\n".join([*parts, "", "x"]))

    def test_const(self):
        for row in ["const 1000", "const 999999999", "const a"] + ["const " + number for number in BAD_NUMBERS]:
            self.refused(row)

    def test_wire(self):
        rows = ["wire", "wire ", "wire 0", "wire 0 ", "wire 0 1", "wire 0 1 1 ", "wire 0  1 1", "wire 0 1 1 1", "wire 0 1,1", "wire 0 1 1000", "wire 4 1 1"]
        rows += ["wire 1 0 0", "wire 2", "wire 2 0 0", "wire 3 0", "wire 999999999 0", "wire 0 (0, 1)", "wire 0,1 0", "wires 0 0 1"]
        rows += [form.format(number) for form in ("wire {} 0 0", "wire 0 {} 0", "wire 0 0 {}") for number in BAD_NUMBERS]
        for row in rows:
            self.refused(row)

    def test_join(self):
        rows = ["join", "join ", "join 0", "join 0 1", "join 0 1 ", "join 0 1 0,0,0", "join 0 1 0,0,0 ", "join 0 1 0,0,0  0,0,0", "join 0 1 0,0,0 0,0"]
        rows += ["join 0 1 0,0,0 0,0,0,0", "join 0 1 0,0,0 0,0,0 0,0,0", "join 0 1 0,0,0 0,0,", "join 0 1 ,0,0 0,0,0", "join 0 1 0,,0 0,0,0", "join 0 1 0 0 0 0 0 0"]
        rows += ["join 0 1 0,0,0,0,0,0", "join 0 1 0,0 0,0 0,0", "join 1 0 0,0,0 0,0,0", "join 0 3 0 0", "join 3 0 0,0", "join 2 2", "join 0 1 0,0,0 0,0,1000"]
        rows += ["join 0 1 0, 0,0 0,0,0", "join 0 1 0;0;0 0;0;0", "join 0,1 0,0,0 0,0,0", "join 2 2 ,", "join 2 2 0,", "joins 2 2 0", "join 0,0,0 0 1"]
        forms = ("join {} 1 0,0,0 0,0,0", "join 0 {} 0,0,0 0,0,0", "join 0 1 {},0,0 0,0,0", "join 0 1 0,0,0 0,{},0", "join 0 1 0,0,0 0,0,{}", "join 2 2 {}")
        rows += [form.format(number) for form in forms for number in BAD_NUMBERS]
        for row in rows:
            self.refused(row)

    def test_cells(self):
        rows = ["latch", "latch 2", "latch 2 0", "latch 2 0 ", "latch 2 0 0 0", "latch 2 0 0 ", "latch 1 0 0", "latch 0 0 0", "latch 1000 0 0", "latch 2 2 0"]
        rows += ["latch 2 0 3", "latch 2 0 4", "latch  2 0 0", "latch 2,0,0", "latch 999 999 0", "counter", "counter 2", "counter 2 0", "counter 2 0 0 0"]
        rows += ["counter 2 0 0 ", "counter 0 0 0", "counter 1 0 0", "counter 4 0 0", "counter 91 0 0", "counter 99 0 0", "counter 101 0 0", "counter 2 2 0"]
        rows += ["counter 97 97 0", "counter 2 0 3", "counter 2 0 9", "counter 2,0,0", "Latch 2 0 0", "counters 2 0 0"]
        forms = ("latch {} 0 0", "latch 2 {} 0", "latch 2 0 {}", "counter {} 0 0", "counter 2 {} 0", "counter 2 0 {}")
        rows += [form.format(number) for form in forms for number in BAD_NUMBERS]
        for row in rows:
            self.refused(row)

    def test_rows_that_cannot_stand_at_their_place(self):
        self.refused("latch 2 0 2", ahead=("letter", "const 2", "const 3"))
        self.refused("wire 0 0", ahead=())
        self.refused("counter 2 0 0", ahead=())
        self.refused("counter 2 0 1", ahead=("const 0",))
        self.refused("join 0 1 0", ahead=("const 0",))
        self.check(3, "circuit a\nconst 1\nconst 1\nwire 3 0\nwire 1 0 1")

    def test_size_of_the_letter_line(self):
        rows = ["letter", "wire 0 1 2", "latch 2 0 1"]
        self.assertEqual(Circuit.read("\n".join(["circuit ab", *rows])).after("b"), 1)
        self.check(2, "\n".join(["circuit a", *rows]))
        self.check(2, "\n".join(["circuit abc", *rows]))

    def test_last_line_looks_at_the_letter(self):
        self.check(1, "circuit ab\nletter")
        self.check(2, "circuit ab\nletter\nwire 0 0 1")
        self.check(3, "circuit ab\nletter\nconst 0\njoin 1 0 0,1")
        self.check(8, TEXT + "\nletter")
        self.check(6, "\n".join(ROWS[:7]))
        self.check(2, "circuit ab\nletter\nx\nletter")
        self.assertEqual(len(Circuit.read(TEXT + "\nletter\nconst 0")), 9)

    def test_row_cut_off_or_doubled(self):
        self.check(8, TEXT + "\n")
        self.check(8, TEXT + "\n\n")
        self.check(8, TEXT + "\n" + ROWS[0])
        self.check(1, "\n".join([ROWS[0], *ROWS]))
        self.check(0, "\n".join(ROWS[1:]))
        self.check(0, "\n" + TEXT)
        self.check(7, TEXT[:-4])
        self.check(1, "\n".join(ROWS[:1] + ROWS[2:]))

    def test_first_wrong_row_is_told(self):
        for first in range(1, 7):
            for second in range(first + 1, 8):
                for wrong, other in (("x", "const 1000"), ("const 1000", "x"), ("wire 9 0", "")):
                    rows = list(ROWS)
                    rows[first], rows[second] = wrong, other
                    self.check(first, "\n".join(rows))

    def test_4001_lines(self):
        rows = ["const 0"] * 4001
        self.check(0, "\n".join(["circuit a", *rows]))
        self.check(0, "\n".join(["circuit a", *rows, *rows]))
        self.assertEqual(len(Circuit.read("\n".join(["circuit a", *rows[1:]]))), 4000)
        for wrong in ("x", "", "const 1000", "wire 4001 0", "wire 0 0 0"):
            self.check(4001, "\n".join(["circuit a", *rows[1:], wrong]))
            self.check(7, "\n".join(["circuit a", *rows[:6], wrong, *rows]))
        self.check(4001, "\n".join(["circuit a", *rows[1:], "letter"]))


if __name__ == "__main__":
    unittest.main()
