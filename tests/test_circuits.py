"""Circuits: lines, sizes, cells, looks and values."""

import itertools
import unittest

from helping import STRANGE, all_words, some_circuits
from onlyahead.circuits import Circuit
from onlyahead.errors import InvalidAlphabet, InvalidLine, InvalidWord, TooMany

# A latch keeps the last letter, a counter counts the letters b modulo 5, and the last line joins both.
LINES = [
    ("letter",),
    ("wire", 0, (1, 2)),
    ("latch", 2, 0, 1),
    ("wire", 0, (0, 1)),
    ("counter", 5, 3, 3),
    ("const", 7),
    ("join", 2, 4, ((0, 1, 2, 3, 4), (5, 6, 7, 8, 9))),
]
PRIMES = [2, 3, 5, 7, 11, 13, 17, 19, 23, 29, 31, 37, 41, 43, 47, 53, 59, 61, 67, 71, 73, 79, 83, 89, 97]
# What lines may refer to in the tests of one line: sizes 2, 1, 3 and 2.
AHEAD = [("letter",), ("const", 0), ("const", 2), ("latch", 2, 0, 0)]


def plain_sides(circuit, word):
    """The sides by index after a word, by asking each line for its value one by one."""
    lines = circuit.lines()
    sides = {at: lines[at][2] for at in circuit.cells}
    for letter in word:
        place = circuit.alphabet.index(letter)
        fresh = {}
        for at, side in sides.items():
            value = plain_value(lines, sides, lines[at][3], place)
            if lines[at][0] == "counter":
                fresh[at] = (side + value) % lines[at][1]
            else:
                fresh[at] = value - 1 if value else side
        sides = fresh
    return sides


def plain_value(lines, sides, at, place):
    if at in sides:
        return sides[at]
    kind, *parts = lines[at]
    if kind == "const":
        return parts[0]
    if kind == "letter":
        return place
    if kind == "wire":
        return parts[1][plain_value(lines, sides, parts[0], place)]
    return parts[2][plain_value(lines, sides, parts[0], place)][plain_value(lines, sides, parts[1], place)]


def looking(lines, at):
    kind, *parts = lines[at]
    if kind in ("wire", "join"):
        return any(looking(lines, ref) for ref in parts[: 1 if kind == "wire" else 2])
    return kind == "letter"


class OrdinaryTest(unittest.TestCase):
    def test_parts(self):
        circuit = Circuit("ab", LINES)
        self.assertEqual(circuit.alphabet, "ab")
        self.assertEqual(circuit.cells, [2, 4])
        self.assertEqual(circuit.primes, [5])
        self.assertEqual(len(circuit), 7)
        self.assertEqual(circuit.lines(), LINES)
        self.assertEqual(circuit.sizes(), [2, 3, 2, 2, 5, 8, 10])
        self.assertEqual([circuit.looks(at) for at in range(7)], [True, True, False, True, False, False, False])
        self.assertEqual(repr(circuit), "Circuit(7 lines)")
        self.assertEqual(Circuit.MOST, 4000)
        self.assertEqual(circuit.MOST, 4000)
        for found in (circuit.cells, circuit.primes, circuit.lines(), circuit.sizes(), circuit.sides_after("")):
            self.assertIs(found.__class__, list)

    def test_values(self):
        circuit = Circuit("ab", LINES)
        told = {"": 3, "a": 3, "b": 9, "ba": 4, "bb": 5, "bba": 0, "bbb": 6, "bbbbb": 8}
        for word, value in told.items():
            self.assertEqual(circuit.after(word), value)
        self.assertEqual(circuit.sides_after(""), [0, 3])
        self.assertEqual(circuit.sides_after(word="abb"), [1, 0])
        self.assertEqual(circuit.after(word="abb"), 5)

    def test_names_of_parameters(self):
        self.assertEqual(Circuit(lines=LINES, alphabet="ab"), Circuit("ab", LINES))
        self.assertIs(Circuit("ab", LINES).looks(line=0), True)
        self.assertEqual(Circuit.read(text="circuit a\nconst 0"), Circuit("a", [("const", 0)]))

    def test_methods_stand_in_the_class(self):
        names = ["alphabet", "cells", "primes", "lines", "sizes", "after", "sides_after", "looks", "listing", "text", "read"]
        for name in ["MOST", "__init__", "__len__", "__eq__", "__repr__", *names]:
            self.assertIn(name, Circuit.__dict__)

    def test_one_line(self):
        circuit = Circuit("abcd", [("const", 999)])
        self.assertEqual((circuit.after(""), circuit.after("dcba")), (999, 999))
        self.assertEqual((circuit.cells, circuit.primes, circuit.sides_after("a")), ([], [], []))
        self.assertEqual((circuit.sizes(), repr(circuit)), ([1000], "Circuit(1 lines)"))

    def test_primes_once_and_ascending(self):
        lines = [("const", 1)] + [("counter", prime, 0, 0) for prime in (7, 2, 97, 7, 3, 2)] + [("latch", 11, 5, 0)]
        self.assertEqual(Circuit("a", lines).primes, [2, 3, 7, 97])
        self.assertEqual(Circuit("a", lines).cells, [1, 2, 3, 4, 5, 6, 7])
        self.assertEqual(Circuit("a", [("const", 0), ("latch", 3, 0, 0)]).primes, [])

    def test_equal(self):
        circuit = Circuit("ab", LINES)
        self.assertEqual(circuit, Circuit("ab", tuple(LINES)))
        self.assertNotEqual(circuit, Circuit("ac", LINES))
        self.assertNotEqual(circuit, Circuit("ab", LINES[:-1]))
        self.assertNotEqual(circuit, Circuit("ab", [*LINES[:5], ("const", 8), LINES[6]]))
        for other in (*STRANGE, LINES, circuit.text, repr(circuit)):
            self.assertIs(circuit == other, False)
            self.assertIs(circuit != other, True)

    def test_equal_values_are_not_enough(self):
        self.assertNotEqual(Circuit("a", [("const", 0)]), Circuit("a", [("const", 1), ("const", 0)]))

    def test_listing(self):
        told = ["   0 letter      2", "   1 wire        3", "   2 latch       2", "   3 wire        2"]
        told += ["   4 counter     5", "   5 const       8", "   6 join       10"]
        self.assertEqual(Circuit("ab", LINES).listing(), told)
        lines = [("const", at // 4) for at in range(4000)]
        found = Circuit("a", lines).listing()
        self.assertEqual(len(found), 4000)
        self.assertEqual(found[99], "  99 const      25")
        self.assertEqual(found[3999], "3999 const    1000")


class SizeTest(unittest.TestCase):
    def sizes(self, *lines, alphabet="ab"):
        return Circuit(alphabet, [*lines, ("const", 0)]).sizes()[:-1]

    def test_const_and_letter(self):
        self.assertEqual(self.sizes(("const", 0), ("const", 1), ("const", 999)), [1, 2, 1000])
        for alphabet in ("a", "ab", "xyz", "abcd"):
            self.assertEqual(self.sizes(("letter",), alphabet=alphabet), [len(alphabet)])

    def test_wire_and_join(self):
        self.assertEqual(self.sizes(("letter",), ("wire", 0, (0, 0)), ("wire", 0, (999, 3)), ("wire", 0, (3, 4))), [2, 1, 1000, 5])
        self.assertEqual(self.sizes(("const", 999), ("wire", 0, tuple(range(1000)))), [1000, 1000])
        for table in (((0, 0), (0, 0)), ((1, 5), (2, 3)), ((0, 0), (0, 999))):
            self.assertEqual(self.sizes(("letter",), ("join", 0, 0, table)), [2, 1 + max(max(row) for row in table)])
        self.assertEqual(self.sizes(("const", 2), ("const", 1), ("join", 0, 1, ((1, 2), (3, 4), (6, 5)))), [3, 2, 7])

    def test_cells(self):
        found = self.sizes(("const", 0), ("latch", 2, 0, 0), ("latch", 999, 998, 0), ("counter", 2, 1, 0), ("counter", 97, 96, 0))
        self.assertEqual(found, [1, 2, 999, 2, 97])
        self.assertEqual(self.sizes(("const", 999), ("latch", 999, 0, 0)), [1000, 999])
        self.assertEqual(self.sizes(("const", 999), ("counter", 2, 0, 0)), [1000, 2])

    def test_same_as_greatest_values(self):
        for circuit in some_circuits(31, 20, "abc", 20):
            for line, size in zip(circuit.lines(), circuit.sizes()):
                if line[0] == "wire":
                    self.assertEqual(size, max(line[2]) + 1)
                elif line[0] == "join":
                    self.assertEqual(size, max(itertools.chain(*line[3])) + 1)


class LooksTest(unittest.TestCase):
    def test_ordinary(self):
        lines = [*AHEAD, ("wire", 0, (0, 1)), ("wire", 4, (0, 1)), ("join", 1, 5, ((0, 1),)), ("join", 5, 2, ((0,) * 3,) * 2)]
        lines += [("counter", 3, 0, 6), ("wire", 8, (0, 0, 1)), ("join", 3, 8, ((0,) * 3,) * 2), ("wire", 1, (0,))]
        told = [True, False, False, False, True, True, True, True, False, False, False, False]
        circuit = Circuit("ab", lines)
        self.assertEqual([circuit.looks(at) for at in range(len(lines))], told)

    def test_same_as_by_refs(self):
        for circuit in some_circuits(32, 30, "ab", 25):
            for at in range(len(circuit)):
                self.assertIs(circuit.looks(at), looking(circuit.lines(), at))

    def test_no_line(self):
        circuit = Circuit("ab", LINES)
        for value in [item for item in STRANGE if item.__class__ is not int] + [7, -1, 999999999, "0", (0,), [0]]:
            with self.assertRaises(InvalidLine) as caught:
                circuit.looks(value)
            self.assertIs(caught.exception.at, value)
            self.assertEqual(caught.exception.code, "InvalidLine")


class ValueTest(unittest.TestCase):
    def test_wire_and_join(self):
        lines = [("const", 1), ("latch", 3, 2, 0), ("wire", 1, (7, 5, 3)), ("join", 1, 0, ((0, 1), (2, 3), (4, 5)))]
        self.assertEqual([Circuit("a", lines[:3]).after(word) for word in ("", "a")], [3, 7])
        self.assertEqual([Circuit("a", lines).after(word) for word in ("", "a")], [5, 1])

    def test_latch_keeps_or_gets(self):
        lines = [("letter",), ("wire", 0, (0, 1, 2, 3)), ("latch", 3, 1, 1)]
        circuit = Circuit("abcd", lines)
        told = {"": 1, "a": 1, "b": 0, "ba": 0, "c": 1, "d": 2, "dab": 0, "bda": 2, "aaaa": 1, "dcb": 0}
        for word, value in told.items():
            self.assertEqual((circuit.after(word), circuit.sides_after(word)), (value, [value]))

    def test_counter_adds(self):
        circuit = Circuit("ab", [("letter",), ("wire", 0, (1, 999)), ("counter", 97, 96, 1)])
        for word in ("", "a", "b", "ab", "bbb", "abab", "a" * 97, "b" * 97):
            told = (96 + word.count("a") + 999 * word.count("b")) % 97
            self.assertEqual(circuit.after(word), told)

    def test_all_cells_change_at_once(self):
        # A letter runs through three latches; each one gets the side that the one ahead had.
        wire = (1, 2)
        lines = [("letter",), ("wire", 0, wire), ("latch", 2, 0, 1)]
        lines += [("wire", 2, wire), ("latch", 2, 0, 3), ("wire", 4, wire), ("latch", 2, 0, 5)]
        circuit = Circuit("ab", lines)
        self.assertEqual([circuit.sides_after(word) for word in ("b", "ba", "baa", "baaa")], [[1, 0, 0], [0, 1, 0], [0, 0, 1], [0, 0, 0]])
        for word in all_words("ab", 6):
            held = "aaa" + word
            self.assertEqual(circuit.sides_after(word), ["ab".index(held[-at]) for at in (1, 2, 3)])
            self.assertEqual(circuit.after(word), "ab".index(held[-3]))

    def test_sides_ahead_of_the_change(self):
        # The second counter adds the side that the first one has ahead of the letter.
        circuit = Circuit("a", [("const", 1), ("counter", 5, 0, 0), ("counter", 97, 0, 1)])
        for many in range(12):
            told = sum(moment % 5 for moment in range(many))
            self.assertEqual(circuit.sides_after("a" * many), [many % 5, told])
            self.assertEqual(circuit.after("a" * many), told)

    def test_last_line_has_the_sides_behind_the_word(self):
        circuit = Circuit("a", [("const", 1), ("counter", 3, 0, 0), ("wire", 1, (10, 20, 30))])
        self.assertEqual([circuit.after("a" * many) for many in range(5)], [10, 20, 30, 10, 20])

    def test_cell_ahead_of_a_letter_line(self):
        circuit = Circuit("ab", [("const", 1), ("counter", 2, 1, 0), ("letter",), ("join", 1, 2, ((0, 1), (1, 0))), ("counter", 7, 2, 3)])
        self.assertEqual([circuit.after(word) for word in ("", "a", "b", "ab", "aba")], [2, 3, 2, 4, 5])

    def test_latch_of_999_sides(self):
        lines = [("letter",), ("const", 999), ("wire", 1, tuple(range(999, -1, -1))), ("wire", 0, (0, 1, 500, 999)), ("latch", 999, 998, 3)]
        circuit = Circuit("abcd", lines)
        self.assertEqual([circuit.after(word) for word in ("", "a", "b", "c", "d", "ca", "cb")], [998, 998, 0, 499, 998, 499, 0])
        told = Circuit("abcd", [*lines, ("wire", 4, tuple(range(1, 1000)))])
        self.assertEqual([told.after(word) for word in ("", "b", "c")], [999, 1, 500])
        self.assertEqual(told.sizes()[2:], [1000, 1000, 999, 1000])

    def test_same_as_line_by_line(self):
        for alphabet, length in (("a", 9), ("ab", 5), ("abcd", 3)):
            for circuit in some_circuits(33, 40, alphabet, 15):
                for word in all_words(alphabet, length)[:90]:
                    sides = plain_sides(circuit, word)
                    self.assertEqual(circuit.sides_after(word), [sides[at] for at in circuit.cells])
                    self.assertEqual(circuit.after(word), sides[len(circuit) - 1])

    def test_values_are_less_than_sizes(self):
        for circuit in some_circuits(34, 40, "ab", 15):
            for word in all_words("ab", 5):
                for at, side in zip(circuit.cells, circuit.sides_after(word)):
                    self.assertLess(side, circuit.sizes()[at])

    def test_long_word(self):
        circuit = Circuit("ab", LINES)
        self.assertEqual(circuit.after("ab" * 2000), 5 + (3 + 2000) % 5)

    def test_4000_lines(self):
        lines = [("const", 1), ("counter", 2, 0, 0), *[("wire", at - 1, (1, 0)) for at in range(2, 4000)]]
        circuit = Circuit("a", lines)
        self.assertEqual(len(circuit), 4000)
        self.assertEqual([circuit.after("a" * many) for many in range(4)], [0, 1, 0, 1])

    def test_no_word(self):
        circuit = Circuit("ab", LINES)
        for value in [*[item for item in STRANGE if item != ""], "c", "abc", "A", "a b", "ab\n"]:
            for call in (circuit.after, circuit.sides_after):
                with self.assertRaises(InvalidWord) as caught:
                    call(value)
                self.assertIs(caught.exception.given, value)


class ListTest(unittest.TestCase):
    def test_list_that_was_passed(self):
        lines = list(LINES)
        circuit = Circuit("ab", lines)
        lines[2] = ("const", 0)
        lines.append(("letter",))
        self.assertEqual((circuit.lines(), circuit.after("b")), (LINES, 9))
        self.assertEqual(circuit, Circuit("ab", LINES))

    def test_list_that_was_passed_is_not_changed(self):
        lines = list(LINES)
        Circuit("ab", lines).after("abba")
        self.assertEqual(lines, LINES)

    def test_lists_that_were_returned(self):
        circuit = Circuit("ab", LINES)
        for found in (circuit.lines(), circuit.sizes(), circuit.cells, circuit.primes, circuit.sides_after("b"), circuit.listing()):
            found.append(9)
            found[0] = None
        self.assertEqual((circuit.lines(), circuit.sizes()), (LINES, [2, 3, 2, 2, 5, 8, 10]))
        self.assertEqual((circuit.cells, circuit.primes, circuit.sides_after("b")), ([2, 4], [5], [1, 4]))
        self.assertEqual((circuit.after("b"), len(circuit), len(circuit.listing())), (9, 7, 7))


class WrongTest(unittest.TestCase):
    def check(self, error, attributes, *values):
        with self.assertRaises(error) as caught:
            Circuit(*values)
        for name, value in attributes.items():
            self.assertEqual(getattr(caught.exception, name), value, values[1])

    def refused(self, line):
        """The line is wrong at its place, among others and as the last one, and told ahead of all later ones."""
        self.check(InvalidLine, {"at": 4}, "ab", [*AHEAD, line])
        self.check(InvalidLine, {"at": 4}, "ab", (*AHEAD, line, ("const", 0)))
        self.check(InvalidLine, {"at": 4}, "ab", [*AHEAD, line, None, ("letter",)])

    def allowed(self, line):
        circuit = Circuit("ab", [*AHEAD, line, ("const", 0)])
        self.assertEqual(circuit.lines()[4], line)

    def test_alphabet(self):
        for value in [*STRANGE, "ba", "aa", "A", "abcde", "a1"]:
            for lines in (LINES, [], None, [("const", 0)] * 4001):
                self.check(InvalidAlphabet, {"given": value}, value, lines)

    def test_no_list(self):
        for value in (None, True, False, 0, 7, "", "const", "x" * 4001, [], ()):
            self.check(InvalidLine, {"at": 0}, "ab", value)

    def test_too_many(self):
        for lines in ([("const", 0)] * 4001, (("const", 0),) * 4001, [None] * 4001, [("letter",)] * 5000):
            self.check(TooMany, {"subject": "lines", "most": 4000}, "ab", lines)
        self.assertEqual(len(Circuit("ab", [("const", 0)] * 4000)), 4000)
        self.check(InvalidLine, {"at": 3999}, "ab", [("const", 0)] * 3999 + [("letter",)])

    def test_no_line(self):
        for value in STRANGE:
            self.refused(value)
        for line in ((), ("Const", 0), ("const ", 0), ("consts", 0), (0, "const"), (None, 0), (["const"], 0), (("const",), 0), ("is", "a")):
            self.refused(line)
        for line in (["const", 0], ["letter"], ["wire", 0, (0, 1)], ["latch", 2, 0, 0], "letter", "const"):
            self.refused(line)

    def test_const(self):
        for line in (("const", 0), ("const", 999)):
            self.allowed(line)
        for value in (*STRANGE[:3], -1, 1000, 999999999, "0", "", [], (0,), [1]):
            self.refused(("const", value))
        self.refused(("const",))
        self.refused(("const", 0, 0))

    def test_letter(self):
        self.allowed(("letter",))
        for line in (("letter", 0), ("letter", "a"), ("letter", None), ("letter", ())):
            self.refused(line)

    def test_wire(self):
        for line in (("wire", 0, (0, 999)), ("wire", 1, (5,)), ("wire", 2, (1, 2, 3)), ("wire", 3, (0, 0))):
            self.allowed(line)
        for ref in (4, 5, 9, -1, True, False, None, "0", (0,), [0], ""):
            self.refused(("wire", ref, (0, 1)))
            self.refused(("wire", ref, (0,)))
        for table in ((), (0,), (0, 1, 2), [0, 1], (0, 1000), (1000, 0), (-1, 0), (0, True), (False, 0), (0, None), ("0", "1"), "01", 0, None,
                      ((0, 1),), ((0,), (1,)), ([0], 1)):
            self.refused(("wire", 0, table))
        for line in (("wire",), ("wire", 0), ("wire", 0, 0, 1), ("wire", 0, (0, 1), 0), ("wire", (0, 1), 0)):
            self.refused(line)

    def test_join(self):
        table = ((0, 1, 2), (3, 4, 999))
        self.allowed(("join", 0, 2, table))
        self.allowed(("join", 3, 2, table))
        self.allowed(("join", 1, 1, ((7,),)))
        self.allowed(("join", 1, 0, ((7, 8),)))
        self.allowed(("join", 0, 1, ((7,), (8,))))
        for ref in (4, 7, -1, True, False, None, "0", (0,), [0]):
            self.refused(("join", ref, 2, table))
            self.refused(("join", 0, ref, table))
        self.refused(("join", 2, 0, table))
        self.refused(("join", 0, 0, table))
        self.refused(("join", 0, 1, table))
        for wrong in ((), ((), ()), ((0, 1, 2),), ((0, 1, 2), (3, 4)), ((0, 1, 2), (3, 4, 5, 6)), (*table, (0, 1, 2)), [*table], (list(table[0]), table[1]),
                      (table[0], [3, 4, 5]), ((0, 1, 1000), table[1]), (table[0], (3, -1, 5)), (table[0], (3, True, 5)), (table[0], (3, None, 5)),
                      (table[0], "345"), (table[0], None), ((0, 3), (1, 4), (2, 5)), (0, 1, 2, 3, 4, 5), 0, None, "", ((0, (1,), 2), table[1])):
            self.refused(("join", 0, 2, wrong))
        for line in (("join",), ("join", 0), ("join", 0, 2), ("join", 0, 2, table, 0), ("join", 0, 2, *table), ("join", table, 0, 2)):
            self.refused(line)

    def test_latch(self):
        for line in (("latch", 2, 0, 0), ("latch", 2, 1, 2), ("latch", 999, 998, 3), ("latch", 2, 0, 1)):
            self.allowed(line)
        for sides in (*STRANGE[:3], 0, 1, -1, 1000, 999999999, "2", (2,), [2]):
            self.refused(("latch", sides, 0, 1))
        for start in (*STRANGE[:3], -1, 2, 3, "0", (0,), [0]):
            self.refused(("latch", 2, start, 1))
        for ref in (*STRANGE[:3], 4, 5, -1, "0", (0,), [0]):
            self.refused(("latch", 2, 0, ref))
        for line in (("latch",), ("latch", 2), ("latch", 2, 0), ("latch", 2, 0, 0, 0)):
            self.refused(line)

    def test_latch_of_too_great_a_line(self):
        for sides in (2, 3, 10, 998, 999):
            lines = [("const", sides), ("latch", sides, 0, 0)]
            self.assertEqual(Circuit("a", lines).after("a"), sides - 1)
        for sides in (2, 3, 10, 998):
            self.check(InvalidLine, {"at": 1}, "a", [("const", sides + 1), ("latch", sides, 0, 0)])

    def test_counter(self):
        for prime in PRIMES:
            self.allowed(("counter", prime, prime - 1, 0))
            self.refused(("counter", prime, prime, 0))
        for prime in [number for number in range(120) if number not in PRIMES] + [-2, -3, 999999999, None, True, "2", (2,), [2], 101, 103]:
            self.refused(("counter", prime, 0, 1))
        for start in (*STRANGE[:3], -1, 3, 4, "0", (0,), [0]):
            self.refused(("counter", 3, start, 1))
        for ref in (*STRANGE[:3], 4, 5, -1, "0", (0,), [0]):
            self.refused(("counter", 3, 0, ref))
        for line in (("counter",), ("counter", 3), ("counter", 3, 0), ("counter", 3, 0, 0, 0)):
            self.refused(line)

    def test_only_earlier_lines(self):
        for at, line in ((0, ("wire", 0, (0,))), (0, ("counter", 2, 0, 0)), (0, ("latch", 2, 0, 1)), (0, ("join", 0, 0, ((0,),)))):
            self.check(InvalidLine, {"at": at}, "a", [line, ("const", 0)])
        self.check(InvalidLine, {"at": 1}, "a", [("const", 0), ("counter", 2, 0, 1)])
        self.check(InvalidLine, {"at": 1}, "a", [("const", 0), ("wire", 2, (0,)), ("const", 0)])

    def test_first_wrong_line_is_told(self):
        for at in range(7):
            for value in (None, ["letter"], ("const", 1000), ("wire", at, (0,))):
                lines = list(LINES)
                lines[at] = value
                self.check(InvalidLine, {"at": at}, "ab", lines)
                self.check(InvalidLine, {"at": at}, "ab", [*lines, None])

    def test_last_line_looks_at_the_letter(self):
        self.check(InvalidLine, {"at": 0}, "ab", [("letter",)])
        for line in (("letter",), ("wire", 0, (0, 1)), ("join", 1, 0, ((0, 1),)), ("join", 0, 3, ((0, 0), (0, 0)))):
            self.check(InvalidLine, {"at": 4}, "ab", [*AHEAD, line])
            self.check(InvalidLine, {"at": 2}, "ab", [*AHEAD[:2], None, *AHEAD[3:], line])
        # Where the letter makes no difference, the line looks at it all the same.
        self.check(InvalidLine, {"at": 1}, "a", [("letter",), ("wire", 0, (0,))])
        self.assertEqual(Circuit("ab", [*AHEAD, ("counter", 2, 0, 0)]).after("b"), 1)
        self.assertEqual(Circuit("ab", [*AHEAD, ("wire", 3, (4, 5))]).after("b"), 4)


if __name__ == "__main__":
    unittest.main()
