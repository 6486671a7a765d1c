"""Runs: letters, limits, history, marks and watched formulas."""

import random
import unittest

from helping import STRANGE, some_circuits, some_formulas
from onlyahead.circuits import Circuit
from onlyahead.errors import (
    AheadError,
    AlphabetsDiffer,
    InvalidLetter,
    InvalidLimit,
    InvalidWord,
    NothingLeft,
    TooMany,
    UnknownName,
)
from onlyahead.formulas import Formula
from onlyahead.live import Run

# The first cell keeps the last letter, and the second one counts the letters b modulo 3.
CIRCUIT = Circuit("ab", [
    ("letter",), ("wire", 0, (1, 2)), ("latch", 2, 0, 1), ("counter", 3, 0, 0), ("join", 2, 3, ((0, 1, 2), (3, 4, 5))),
])
LAST_B = Formula("ab", [("is", "b")], first=True)
EVEN_A = Formula("ab", [("is", "a"), ("count", 0, 2, 0)], first=True)
BAD_LIMITS = [0, -1, 1001, 10 ** 9, None, True, False, "5", "", [], (), [5], (5,)]
BAD_LETTERS = [*STRANGE, "c", "A", "ab", "aa", " ", 0, 1, ("a",), ["a"], b"a"]


def everything(run):
    """All that a run tells of itself."""
    says = []
    while True:
        try:
            says.append(run.says(len(says)))
        except NothingLeft:
            break
    return (run.source, run.so_far, run.value, run.sides, run.busy, run.limit, len(run), run.history(), run.marks(), says)


class Case(unittest.TestCase):
    def check_raises(self, error, run, call, *args):
        """That a call raises an error and changes nothing; returns the error."""
        ahead = everything(run)
        with self.assertRaises(error) as caught:
            call(*args)
        self.assertIs(caught.exception.__class__, error)
        self.assertEqual(everything(run), ahead)
        self.assertIs(run.busy, False)
        return caught.exception

    def check_full(self, run, most, call, *args):
        error = self.check_raises(TooMany, run, call, *args)
        self.assertEqual((error.subject, error.most), ("letters", most))

    def check_letters(self, run, word):
        self.assertEqual((run.so_far, len(run)), (word, len(word)))
        self.assertEqual(run.value, run.source.after(word))
        self.assertEqual(run.sides, run.source.sides_after(word))
        self.assertIs(run.busy, False)


class MakeTest(Case):
    def test_ordinary(self):
        run = Run(CIRCUIT)
        self.assertIs(run.source, CIRCUIT)
        self.check_letters(run, "")
        self.assertEqual((run.limit, run.history(), run.marks()), (100, (0, 0), []))
        self.assertEqual((Run.MOST, run.MOST), (1000, 1000))

    def test_limits(self):
        for limit in (1, 2, 999, 1000):
            self.assertEqual(Run(CIRCUIT, limit=limit).limit, limit)
        for limit in BAD_LIMITS:
            with self.assertRaises(InvalidLimit) as caught:
                Run(CIRCUIT, limit=limit)
            self.assertEqual(caught.exception.given, limit)
            self.assertIs(caught.exception.given.__class__, limit.__class__)

    def test_by_name(self):
        self.assertEqual(Run(circuit=CIRCUIT, limit=7).limit, 7)
        with self.assertRaises(TypeError):
            Run(CIRCUIT, 7)

    def test_properties_that_cannot_be_assigned(self):
        run = Run(CIRCUIT)
        for name in ("source", "so_far", "value", "sides", "busy"):
            with self.assertRaises(AttributeError):
                setattr(run, name, getattr(run, name))

    def test_sides_are_new(self):
        run = Run(CIRCUIT)
        run.sides.append(7)
        run.sides[0] = 1
        run.feed("b")
        run.sides.clear()
        self.check_letters(run, "b")


class FeedTest(Case):
    def test_letters(self):
        run, word = Run(CIRCUIT), ""
        for letter in "abbabbbaab":
            self.assertIsNone(run.feed(letter))
            word += letter
            self.check_letters(run, word)
            self.assertEqual(run.history(), (len(word), 0))

    def test_many_circuits(self):
        chance = random.Random(71)
        for circuit in some_circuits(72, 20, "acd", 12):
            run, word = Run(circuit), ""
            for _ in range(8):
                part = "".join(chance.choice("acd") for _ in range(chance.randrange(4)))
                run.feed_all(part)
                word += part
                self.check_letters(run, word)

    def test_call(self):
        run = Run(CIRCUIT, limit=3)
        self.assertIsNone(run("b"))
        run(letter="a")
        self.check_letters(run, "ba")
        for letter in BAD_LETTERS:
            self.assertEqual(self.check_raises(InvalidLetter, run, run, letter).given, letter)
        run("b")
        self.check_full(run, 3, run, "a")

    def test_wrong_letters(self):
        run = Run(CIRCUIT, limit=1)
        for _ in range(2):
            for letter in BAD_LETTERS:
                self.assertEqual(self.check_raises(InvalidLetter, run, run.feed, letter).given, letter)
            run.feed_all("b"[: 1 - len(run)])

    def test_limit(self):
        run = Run(CIRCUIT, limit=2)
        run.feed(letter="a")
        run.feed("b")
        for letter in "ab":
            self.check_full(run, 2, run.feed, letter)

    def test_feed_all(self):
        run = Run(CIRCUIT, limit=5)
        self.assertIsNone(run.feed_all("abb"))
        self.check_letters(run, "abb")
        run.feed_all(word="ba")
        self.check_letters(run, "abbba")
        self.check_full(run, 5, run.feed_all, "a")

    def test_all_or_none(self):
        run = Run(CIRCUIT, limit=5)
        run.feed_all("ab")
        self.check_full(run, 5, run.feed_all, "abab")
        for word in [None, True, 3, [], ["a"], ("a",), "c", "abc", "ab ", "abac", "aba\n", "A" * 9, "abababc", b"a"]:
            self.assertEqual(self.check_raises(InvalidWord, run, run.feed_all, word).given, word)
        run.feed_all("aba")
        self.check_letters(run, "ababa")

    def test_the_empty_word_changes_nothing(self):
        run = Run(CIRCUIT, limit=3)
        run.feed_all("abb")
        run.feed_all("")
        run += ""
        self.check_letters(run, "abb")
        run.undo()
        run.feed_all("")
        run += ""
        self.assertEqual(run.history(), (2, 1))
        run.redo()
        self.check_letters(run, "abb")

    def test_in_place(self):
        run = same = Run(CIRCUIT, limit=4)
        run += "abb"
        self.assertIs(run, same)
        self.check_letters(run, "abb")

        def add(word):
            nonlocal run
            run += word

        self.check_full(run, 4, add, "ab")
        for word in (None, 3, True, [], ["a"], "c", "bac"):
            self.assertEqual(self.check_raises(InvalidWord, run, add, word).given, word)
        run += "b"
        self.check_letters(same, "abbb")

    def test_1000_letters(self):
        run = Run(CIRCUIT, limit=1000)
        run += "ab" * 500
        self.check_letters(run, "ab" * 500)
        self.check_full(run, 1000, run.feed, "a")
        for _ in range(1000):
            run.undo()
        self.check_letters(run, "")
        self.assertEqual(run.history(), (0, 1000))


class HistoryTest(Case):
    def test_undo_and_redo(self):
        run = Run(CIRCUIT)
        run += "abbab"
        for many in range(1, 6):
            self.assertIsNone(run.undo())
            self.check_letters(run, "abbab"[: 5 - many])
            self.assertEqual(run.history(), (5 - many, many))
        self.check_raises(NothingLeft, run, run.undo)
        for many in range(1, 6):
            self.assertIsNone(run.redo())
            self.check_letters(run, "abbab"[:many])
            self.assertEqual(run.history(), (many, 5 - many))
        self.check_raises(NothingLeft, run, run.redo)

    def test_another_letter_ends_redo(self):
        for feed in (lambda run: run.feed("b"), lambda run: run("b"), lambda run: run.feed_all("b"), lambda run: run.__iadd__("b")):
            run = Run(CIRCUIT)
            run += "aab"
            run.undo()
            run.undo()
            feed(run)
            self.assertEqual((run.so_far, run.history()), ("ab", (2, 0)))
            self.check_raises(NothingLeft, run, run.redo)

    def test_errors_keep_redo(self):
        run = Run(CIRCUIT, limit=3)
        run += "abb"
        run.undo()
        run.undo()
        self.check_raises(InvalidLetter, run, run.feed, "c")
        self.check_raises(InvalidWord, run, run.feed_all, "bc")
        self.check_full(run, 3, run.feed_all, "bab")
        run.redo()
        run.redo()
        self.check_letters(run, "abb")

    def test_redo_at_the_limit(self):
        run = Run(CIRCUIT, limit=3)
        run += "abb"
        run.undo()
        run.undo()
        run.limit = 2
        run.redo()
        self.check_full(run, 2, run.redo)
        run.limit = 3
        run.redo()
        self.check_letters(run, "abb")
        # Without letters to give again, that is told first.
        self.check_raises(NothingLeft, run, run.redo)


class LimitTest(Case):
    def test_assigned_and_set(self):
        run = Run(CIRCUIT, limit=3)
        run += "ab"
        run.limit = 2
        self.assertEqual(run.limit, 2)
        self.check_full(run, 2, run.feed, "a")
        self.assertIsNone(run.set_limit(1000))
        self.assertEqual(run.limit, 1000)
        run.set_limit(limit=3)
        run.feed("a")
        self.check_full(run, 3, run.feed, "a")

    def test_wrong_limits(self):
        run = Run(CIRCUIT, limit=7)
        run += "ababa"

        def assign(limit):
            run.limit = limit

        for call in (assign, run.set_limit):
            for limit in [*BAD_LIMITS, 1, 4]:
                error = self.check_raises(InvalidLimit, run, call, limit)
                self.assertEqual(error.given, limit)
                self.assertIs(error.given.__class__, limit.__class__)
        run.limit = 5
        self.assertEqual(run.limit, 5)

    def test_letters_that_were_taken_back_do_not_count(self):
        run = Run(CIRCUIT, limit=7)
        run += "ababa"
        for _ in range(5):
            run.undo()
        run.limit = 1
        self.check_raises(InvalidLimit, run, run.set_limit, 0)
        run.redo()
        self.check_letters(run, "a")


class MarkTest(Case):
    def test_marks(self):
        run = Run(CIRCUIT)
        self.assertIsNone(run.mark("start"))
        run += "abb"
        run.mark("late")
        run.mark(name="")
        run += "a"
        run.mark("end of it = 1")
        self.assertEqual(run.marks(), [("start", 0), ("late", 3), ("", 3), ("end of it = 1", 4)])
        self.assertIsNone(run.back("late"))
        self.check_letters(run, "abb")
        self.assertEqual(run.history(), (3, 1))
        run.back("")
        self.assertEqual(run.history(), (3, 1))
        run.back(name="start")
        self.check_letters(run, "")
        self.assertEqual((run.history(), len(run.marks())), ((0, 4), 4))
        for many in range(1, 5):
            run.redo()
            self.check_letters(run, "abba"[:many])

    def test_a_name_again(self):
        run = Run(CIRCUIT)
        run.mark("x")
        run += "ab"
        run.mark("y")
        run += "b"
        run.mark("x")
        self.assertEqual(run.marks(), [("x", 3), ("y", 2)])
        run.undo()
        run.undo()
        run.mark("y")
        self.assertEqual(run.marks(), [("x", 3), ("y", 1)])

    def test_marks_of_more_letters(self):
        run = Run(CIRCUIT)
        run += "abb"
        run.mark("x")
        run.undo()
        self.check_raises(NothingLeft, run, run.back, "x")
        self.assertEqual(run.marks(), [("x", 3)])
        run += "ab"
        self.assertIsNone(run.back("x"))
        # The mark is a number: other letters may stand ahead of it now.
        self.check_letters(run, "aba")
        run.back("x")
        self.assertEqual(run.history(), (3, 1))

    def test_unknown_names(self):
        run = Run(CIRCUIT)
        run.mark("x")
        run += "ab"
        for name in [*STRANGE, "y", "X", "x ", 0, ["x"], ("x",), [["x"]]]:
            self.assertEqual(self.check_raises(UnknownName, run, run.back, name).name, name)

    def test_the_list_is_new(self):
        run = Run(CIRCUIT)
        run.mark("x")
        run.marks().clear()
        self.assertEqual(run.marks(), [("x", 0)])

    def test_back_keeps_what_was_taken_back_ahead(self):
        run = Run(CIRCUIT)
        run += "ab"
        run.mark("x")
        run += "bab"
        run.undo()
        run.back("x")
        self.assertEqual(run.history(), (2, 3))
        for _ in range(3):
            run.redo()
        self.check_letters(run, "abbab")


class WatchTest(Case):
    def test_numbers(self):
        run = Run(CIRCUIT)
        self.assertEqual([run.watch(LAST_B), run.watch(formula=EVEN_A), run.watch(LAST_B)], [0, 1, 2])
        self.assertEqual([run.says(0), run.says(number=1), run.says(2)], [True, True, True])
        run.feed("a")
        self.assertEqual([run.says(0), run.says(1), run.says(2)], [False, False, False])

    def test_letters_ahead_of_the_watching(self):
        run = Run(CIRCUIT)
        run += "aab"
        number = run.watch(EVEN_A)
        self.assertIs(run.says(number), True)
        run.feed("a")
        self.assertIs(run.says(number), False)
        run.undo()
        self.assertIs(run.says(number), True)
        run.redo()
        self.assertIs(run.says(number), False)

    def test_all_words(self):
        chance = random.Random(73)
        formulas = some_formulas(74, 12, "ab", 8)
        run = Run(CIRCUIT, limit=200)
        for step in range(150):
            if step % 10 == 0 and step // 10 < len(formulas):
                self.assertEqual(run.watch(formulas[step // 10]), step // 10)
            if chance.random() < 0.3 and len(run):
                run.undo()
            else:
                run.feed(chance.choice("ab"))
            for number, formula in enumerate(formulas[: step // 10 + 1]):
                self.assertIs(run.says(number), run.so_far in formula)

    def test_alphabets(self):
        run = Run(CIRCUIT)
        for alphabet in ("a", "abc", "bc"):
            self.check_raises(AlphabetsDiffer, run, run.watch, Formula(alphabet, [("and", ())]))

    def test_no_such_formula(self):
        run = Run(CIRCUIT)
        for number in [*STRANGE, 0, 1, (0,), [0], "0"]:
            self.check_raises(NothingLeft, run, run.says, number)
        run.watch(LAST_B)
        for number in [*STRANGE, 1, 2, 10 ** 9, (0,), [0], "0"]:
            self.check_raises(NothingLeft, run, run.says, number)
        self.assertIs(run.says(0), True)


class TwinTest(Case):
    def run_with_all(self):
        run = Run(CIRCUIT, limit=9)
        run.mark("x")
        run.watch(EVEN_A)
        run += "abbab"
        run.mark("y")
        run.undo()
        return run

    def test_like_the_run(self):
        run = self.run_with_all()
        twin = run.twin()
        self.assertIs(twin.__class__, Run)
        self.assertEqual(everything(twin), everything(run))
        self.assertIs(twin.source, run.source)
        twin.redo()
        self.check_letters(twin, "abbab")

    def test_independent(self):
        def change(run):
            run.redo()
            run += "bb"
            run.mark("z")
            run.mark("x")
            run.watch(LAST_B)
            run.limit = 8
            run.undo()

        run = self.run_with_all()
        twin = run.twin()
        ahead = everything(run)
        change(twin)
        self.assertEqual(everything(run), ahead)
        self.assertNotEqual(everything(twin), ahead)
        twin = run.twin()
        change(run)
        self.assertEqual(everything(twin), ahead)
        for call in (twin.undo, lambda: twin.back("x"), twin.redo):
            call()
            self.check_letters(twin, twin.so_far)

    def test_twins_of_twins(self):
        run = self.run_with_all()
        one = run.twin()
        other = one.twin()
        one += "aa"
        self.assertEqual(everything(other), everything(run))
        other.back("x")
        self.assertEqual((run.so_far, one.so_far, other.so_far), ("abba", "abbaaa", ""))
        other += "b"
        self.assertEqual((run.history(), one.history(), other.history()), ((4, 1), (6, 0), (1, 0)))


class BusyTest(Case):
    def test_never_behind_a_call(self):
        run = Run(CIRCUIT, limit=2)
        for call, args in [
            (run.feed, "a"), (run.feed, "c"), (run.feed_all, "ab"), (run.feed_all, "b"), (run, "a"), (run.undo, ()), (run.redo, ()),
            (run.redo, ()), (run.back, "x"), (run.set_limit, (0,)), (run.says, (3,)), (run.feed_all, ("",)),
        ]:
            try:
                call(*args if isinstance(args, tuple) else (args,))
            except (AheadError, LookupError):
                pass
            self.assertIs(run.busy, False)


if __name__ == "__main__":
    unittest.main()
