"""Machines: what the constructor takes, the state after a word, reachable states, equality."""

import unittest

from helping import STRANGE, all_words, ring, ring_rows, some_judges
from onlyahead.errors import InvalidAlphabet, InvalidRows, InvalidState, InvalidWord, TooMany
from onlyahead.machines import Judge, Machine

ROWS = [(1, 0), (2, 1), (0, 2)]
NO_STATES = [None, True, False, -1, 3, 10 ** 9, "0", "", [], (0,), [0]]
NO_ROWS = [None, True, 0, "01", "", (), (0,), (0, 1, 2), [0, 1], (0, 3), (0, -1), (True, 0), (0, False), (0, None),
           (0, "1"), ((0,), 1), (0, [1])]


class ConstructorTest(unittest.TestCase):
    def check(self, error, attributes, *values, **named):
        with self.assertRaises(error) as caught:
            Machine(*values, **named)
        for name, value in attributes.items():
            found = getattr(caught.exception, name)
            self.assertEqual(found, value)
            self.assertIs(found.__class__, value.__class__)

    def test_ordinary(self):
        machine = Machine("ab", ROWS, start=2)
        self.assertEqual(machine.alphabet, "ab")
        self.assertEqual(machine.start, 2)
        self.assertEqual(machine.rows(), ROWS)
        self.assertEqual(len(machine), 3)
        self.assertEqual(Machine("ab", ROWS).start, 0)
        self.assertEqual(Machine(rows=ROWS, start=1, alphabet="ab"), Machine("ab", ROWS, start=1))

    def test_one_state(self):
        for alphabet in ("a", "abcd"):
            machine = Machine(alphabet, [(0,) * len(alphabet)])
            self.assertEqual(len(machine), 1)
            self.assertEqual(machine.after(alphabet * 3), 0)
            self.assertEqual(machine.reachable(), [0])

    def test_alphabet(self):
        for value in ["ba", "aa", "abcde", "a1", "a\u00e9", *STRANGE]:
            self.check(InvalidAlphabet, {"given": value}, value, ROWS)

    def test_rows_that_are_no_list(self):
        for value in (None, True, 0, 3, "00", "", [], ()):
            self.check(InvalidRows, {"at": 0}, "ab", value)

    def test_row_that_is_none(self):
        for bad in NO_ROWS:
            for at in range(3):
                rows = list(ROWS)
                rows[at] = bad
                self.check(InvalidRows, {"at": at}, "ab", rows)
                self.check(InvalidRows, {"at": at}, "ab", tuple(rows))

    def test_first_row_that_is_none(self):
        self.check(InvalidRows, {"at": 1}, "ab", [(0, 0), [0, 0], None, (0, 9)])

    def test_start(self):
        for value in NO_STATES:
            self.check(InvalidState, {"given": value}, "ab", ROWS, start=value)

    def test_start_only_by_name(self):
        with self.assertRaises(TypeError):
            Machine("ab", ROWS, 1)

    def test_most(self):
        self.assertEqual(Machine.MOST, 1000)
        self.assertEqual(len(ring(1000)), 1000)
        self.assertEqual(len(Machine("abcd", tuple(ring_rows(1000, "abcd")))), 1000)
        for rows in (ring_rows(1001), tuple(ring_rows(1001)), [None] * 1001):
            self.check(TooMany, {"subject": "states", "most": 1000}, "a", rows)

    def test_order_of_errors(self):
        self.check(InvalidAlphabet, {"given": "ba"}, "ba", None, start=9)
        self.check(InvalidAlphabet, {"given": "ba"}, "ba", ring_rows(1001), start=9)
        self.check(InvalidRows, {"at": 0}, "ab", [], start=None)
        self.check(TooMany, {"subject": "states"}, "ab", [None] * 1001, start=-1)
        self.check(InvalidRows, {"at": 2}, "ab", [(0, 0), (1, 1), (2, 3)], start=3)

    def test_lists_are_copied(self):
        rows = list(ROWS)
        machine = Machine("ab", rows)
        rows[0] = (0, 0)
        rows.append((9, 9))
        self.assertEqual(machine.rows(), ROWS)
        machine.rows().clear()
        machine.rows()[1] = None
        machine.reachable().append(7)
        self.assertEqual(machine.rows(), ROWS)
        self.assertEqual(machine.reachable(), [0, 1, 2])
        self.assertEqual(len(machine), 3)

    def test_tuple_in_the_place_of_the_list(self):
        machine = Machine("ab", tuple(ROWS))
        self.assertEqual(machine, Machine("ab", ROWS))
        self.assertEqual(machine.rows(), ROWS)
        self.assertIs(machine.rows().__class__, list)


class WalkTest(unittest.TestCase):
    def test_after_and_led(self):
        machine = Machine("bd", ROWS, start=1)
        self.assertEqual(machine.after(""), 1)
        self.assertEqual(machine.after("b"), 2)
        self.assertEqual(machine.after("d"), 1)
        self.assertEqual(machine.after("bb"), 0)
        self.assertEqual(machine.after(word="bbdb"), 1)
        self.assertEqual(machine.led(0, ""), 0)
        self.assertEqual(machine.led(word="bdb", state=0), 2)
        self.assertEqual(ring(7).after("a" * 4000), 4000 % 7)

    def test_letters_in_order(self):
        machine = Machine("abcd", [(0, 1, 2, 3)] * 4)
        for at, letter in enumerate("abcd"):
            self.assertEqual(machine.led(3, "dcba" + letter), at)

    def test_wrong_words(self):
        machine = Machine("bd", ROWS)
        for value in ["a", "bx", "B", "b d", "b\n", *[item for item in STRANGE if item != ""]]:
            for call in (machine.after, lambda word: machine.led(1, word)):
                with self.assertRaises(InvalidWord) as caught:
                    call(value)
                self.assertIs(caught.exception.given, value)

    def test_wrong_states(self):
        machine = Machine("ab", ROWS)
        for value in NO_STATES:
            for call in (machine.first_word, lambda state: machine.led(state, "a"), lambda state: machine.led(state, None)):
                with self.assertRaises(InvalidState) as caught:
                    call(value)
                self.assertIs(caught.exception.given, value)

    def test_reachable(self):
        rows = [(0,), (3,), (0,), (1,), (4,)]
        self.assertEqual(Machine("a", rows).reachable(), [0])
        self.assertEqual(Machine("a", rows, start=3).reachable(), [1, 3])
        self.assertEqual(Machine("a", rows, start=2).reachable(), [0, 2])
        self.assertEqual(ring(1000).reachable(), list(range(1000)))

    def test_first_word(self):
        machine = Machine("ab", [(0, 1), (2, 1), (3, 3), (3, 0), (0, 0)])
        self.assertEqual([machine.first_word(state) for state in range(5)], ["", "b", "ba", "baa", None])
        self.assertEqual(machine.first_word(state=2), "ba")
        self.assertEqual(ring(1000).first_word(999), "a" * 999)

    def test_first_word_is_the_first_one(self):
        for judge in some_judges(1, 60, "abc", 5):
            firsts = {}
            for word in all_words("abc", 4):
                firsts.setdefault(judge.after(word), word)
            for state in range(len(judge)):
                self.assertEqual(judge.first_word(state), firsts.get(state))
            self.assertEqual(judge.reachable(), sorted(firsts))


class EqualTest(unittest.TestCase):
    def test_equal(self):
        machine = Machine("ab", ROWS, start=1)
        self.assertTrue(machine == Machine("ab", list(ROWS), start=1))
        self.assertFalse(machine != Machine("ab", list(ROWS), start=1))

    def test_unlike(self):
        machine = Machine("ab", ROWS, start=1)
        others = [Machine("ac", ROWS, start=1), Machine("ab", ROWS), Machine("ab", [(1, 0), (2, 1), (0, 1)], start=1)]
        others += [Machine("ab", [*ROWS, (0, 0)], start=1)]
        for other in others:
            self.assertFalse(machine == other)
            self.assertTrue(machine != other)

    def test_nothing_else(self):
        machine = Machine("ab", ROWS)
        for other in [*STRANGE, ROWS, machine.text, repr(machine), 3, object(), Machine]:
            self.assertFalse(machine == other)
            self.assertFalse(other == machine)
            self.assertTrue(machine != other)

    def test_judge_and_machine(self):
        machine = Machine("ab", ROWS)
        for accepted in ([], [0], [0, 1, 2]):
            self.assertFalse(machine == Judge("ab", ROWS, accepted))
            self.assertFalse(Judge("ab", ROWS, accepted) == machine)
            self.assertTrue(machine != Judge("ab", ROWS, accepted))

    def test_judges(self):
        judge = Judge("ab", ROWS, [0, 2], start=1)
        self.assertTrue(judge == Judge("ab", ROWS, (2, 0, 2), start=1))
        self.assertFalse(judge == Judge("ab", ROWS, [0], start=1))
        self.assertFalse(judge == Judge("ab", ROWS, [0, 2]))
        self.assertFalse(judge == Judge("ac", ROWS, [0, 2], start=1))
        self.assertFalse(judge == Judge("ab", [(1, 0), (2, 1), (0, 1)], [0, 2], start=1))

    def test_repr(self):
        self.assertEqual(repr(Machine("ab", ROWS)), "Machine(3 states)")
        self.assertEqual(repr(ring(1)), "Machine(1 states)")
        self.assertEqual(repr(ring(1000)), "Machine(1000 states)")


class NeverChangesTest(unittest.TestCase):
    def test_properties_cannot_be_assigned(self):
        machine = Machine("ab", ROWS)
        for name in ("alphabet", "start", "text"):
            with self.assertRaises(AttributeError):
                setattr(machine, name, "x")

    def test_errors_change_nothing(self):
        machine = Machine("ab", ROWS, start=1)
        before = machine.text
        for call in (lambda: machine.after("x"), lambda: machine.led(9, ""), lambda: machine.first_word(True)):
            with self.assertRaises(ValueError):
                call()
        self.assertEqual(machine.text, before)


class DefinedTest(unittest.TestCase):
    def test_methods_stand_in_their_class(self):
        both = ("__init__", "read", "__repr__")
        for name in both + ("alphabet", "start", "text", "rows", "after", "led", "reachable", "first_word", "__len__", "__eq__"):
            self.assertIn(name, vars(Machine))
        for name in both + ("accepted", "least", "within", "__contains__", "__and__", "__or__", "__neg__"):
            self.assertIn(name, vars(Judge))
        self.assertIn("MOST", vars(Machine))
        self.assertEqual(Machine.__module__, "onlyahead.machines")
        self.assertEqual(Judge.__module__, "onlyahead.machines")
        self.assertTrue(issubclass(Judge, Machine))


if __name__ == "__main__":
    unittest.main()
