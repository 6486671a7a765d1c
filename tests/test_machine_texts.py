"""The texts of machines and judges."""

import unittest

from helping import STRANGE, counting, ring, some_judges
from onlyahead.errors import InvalidText
from onlyahead.machines import Judge, Machine

MACHINE = "machine ab 1\n1 0\n2 1\n0 2"
JUDGE = "judge ab 1\n1 0 *\n2 1\n0 2 *"
ROWS = [(1, 0), (2, 1), (0, 2)]
BAD_NUMBERS = ["00", "01", "-1", "+1", "1.0", "1e0", "1_0", "x", "", "\u0661", "\u00b2", "1000000000", "0000000001", "True", "**"]


class WriteTest(unittest.TestCase):
    def test_machine(self):
        self.assertEqual(Machine("ab", ROWS, start=1).text, MACHINE)
        self.assertEqual(ring(1).text, "machine a 0\n0")
        self.assertEqual(Machine("abcd", [(1, 0, 1, 0), (0, 0, 0, 0)]).text, "machine abcd 0\n1 0 1 0\n0 0 0 0")

    def test_judge(self):
        self.assertEqual(Judge("ab", ROWS, [2, 0, 2], start=1).text, JUDGE)
        self.assertEqual(Judge("ab", ROWS, [], start=1).text, MACHINE.replace("machine", "judge"))

    def test_two_digits(self):
        self.assertTrue(ring(12).text.endswith("\n10\n11\n0"))


class ReadTest(unittest.TestCase):
    def test_ordinary(self):
        machine = Machine.read(MACHINE)
        self.assertEqual(machine, Machine("ab", ROWS, start=1))
        self.assertIs(machine.__class__, Machine)
        judge = Judge.read(text=JUDGE)
        self.assertEqual(judge, Judge("ab", ROWS, [0, 2], start=1))
        self.assertIs(judge.__class__, Judge)
        self.assertEqual(Machine.read(text="machine z 0\n0"), Machine("z", [(0,)]))

    def test_there_and_back(self):
        for judge in some_judges(7, 60, "abd", 12):
            machine = Machine(judge.alphabet, judge.rows(), start=judge.start)
            self.assertEqual(Judge.read(judge.text), judge)
            self.assertEqual(Machine.read(machine.text), machine)
            self.assertEqual(Machine.read(machine.text).text, machine.text)

    def test_1000_states(self):
        self.assertEqual(Machine.read(ring(1000).text), ring(1000))
        self.assertEqual(Judge.read(counting(1000).text), counting(1000))


class WrongTextTest(unittest.TestCase):
    def check(self, row, text, *classes):
        for reader in classes or (Machine, Judge):
            with self.assertRaises(InvalidText) as caught:
                reader.read(text)
            self.assertEqual(caught.exception.row, row, repr(text))

    def test_no_string(self):
        for value in [b"machine a 0\n0", ["machine a 0", "0"], *STRANGE]:
            self.check(0, value)

    def test_other_kind(self):
        self.check(0, JUDGE, Machine)
        self.check(0, MACHINE, Judge)
        self.check(0, JUDGE.replace(" *", ""), Machine)
        for text in ("circuit ab\nconst 0", "formula ab no\nis a", "Machine a 0\n0", "judges a 0\n0", "= ab\n0", "\n" + MACHINE):
            self.check(0, text)

    def test_first_row(self):
        heads = ["", "{}", "{} ", "{} ab", "{} ab ", "{} 0", "{} ab 0 ", " {} ab 0", "{}  ab 0", "{} ab  0", "{} ab 0 0", "{} ab 0 *"]
        heads += ["{}\tab 0", "{} ba 0", "{} aa 0", "{} a1 0", "{} AB 0", "{} abcde 0", "{} a\u00e9 0", "{} ab\r"]
        heads += ["{} ab " + number for number in BAD_NUMBERS]
        for head in heads:
            for rest in ("\n1 0\n2 1\n0 2", "\nx", ""):
                self.check(0, head.format("machine") + rest, Machine)
                self.check(0, head.format("judge") + rest, Judge)

    def test_one_row_bent(self):
        rows = ["", " ", "0", "0 ", " 0 0", "0  0", "0 0 ", "0 0 0", "0 0 0 *", "0\t0", "0 0\r", "* 0 0", "0 * 0", "0 0 **", "0 0 * *",
                "0 0  *", "0 0*", "*", " *", "0 *", "0,0", "machine ab 0"]
        rows += ["0 " + number for number in BAD_NUMBERS] + [number + " 0" for number in BAD_NUMBERS]
        for at in range(1, 4):
            for bent in rows:
                for reader, text in ((Machine, MACHINE), (Judge, JUDGE)):
                    parts = text.split("\n")
                    parts[at] = bent
                    self.check(at, "\n".join(parts), reader)

    def test_star_in_a_machine(self):
        self.check(2, "machine a 0\n0\n0 *\nx", Machine)
        self.check(1, "machine a 0\n*", Machine)

    def test_first_wrong_row_is_told(self):
        self.check(2, "machine ab 7\n9 9\n0\n\nx", Machine)
        self.check(0, "machine ba 7\n9 9\n0\n\nx", Machine)
        self.check(1, "judge ab 0\n0 0 0\n0", Judge)

    def test_row_cut_off_or_doubled(self):
        for reader, text in ((Machine, MACHINE), (Judge, JUDGE)):
            parts = text.split("\n")
            self.check(4, text + "\n", reader)
            self.check(4, "\n".join([*parts, parts[0]]), reader)
            self.check(1, "\n".join([parts[0], *parts]), reader)
            self.check(0, "\n".join(parts[1:]), reader)
            # Without its last row a state is named that is none.
            self.check(0, "\n".join(parts[:-1]), reader)
            self.check(3, text[: text.rindex("\n") + 2], reader)
            self.assertEqual(len(reader.read("\n".join([*parts, parts[-1]]))), 4)

    def test_no_row_behind_the_first(self):
        self.check(0, "machine ab 0", Machine)
        self.check(0, "judge ab 0", Judge)
        self.check(1, "machine ab 0\n", Machine)
        self.check(1, "judge ab 0\n", Judge)

    def test_1001_states(self):
        rows = ["0"] * 1001
        for kind, reader in (("machine", Machine), ("judge", Judge)):
            self.check(0, "\n".join([f"{kind} a 0", *rows]), reader)
            self.check(1001, "\n".join([f"{kind} a 0", *rows[1:], "00"]), reader)
            self.assertEqual(len(reader.read("\n".join([f"{kind} a 999", *rows[1:]]))), 1000)

    def test_start_and_states_that_are_none(self):
        for kind, reader in (("machine", Machine), ("judge", Judge)):
            self.check(0, f"{kind} a 2\n0\n0", reader)
            self.check(0, f"{kind} a 999999999\n0", reader)
            self.check(0, f"{kind} a 0\n0\n2", reader)
            self.check(0, f"{kind} ab 0\n0 0\n0 999999999", reader)
            self.check(2, f"{kind} a 5\n9\n01", reader)
        self.check(0, "judge a 0\n0\n2 *", Judge)


if __name__ == "__main__":
    unittest.main()
