"""What holds over the whole program: its names, and the ways through all forms, one behind the other."""

import importlib
import inspect
import random
import unittest

from helping import all_words, some_judges
from onlyahead.answers import Built
from onlyahead.build import build, formula_for
from onlyahead.circuits import Circuit
from onlyahead.errors import AheadError, Barred, Missing, NothingLeft, TooMany
from onlyahead.formulas import Formula
from onlyahead.letters import words_to
from onlyahead.live import Run
from onlyahead.machines import Judge, Machine
from onlyahead.pages import read_page, write_page
from onlyahead.parting import differences, first_difference
from onlyahead.shelf import Shelf
from onlyahead.translate import circuit_of, formula_of, judge_of, judge_of_formula, machine_of, strays

# The signatures of the interface: functions, and methods with the parameters behind self.
FUNCTIONS = {
    "letters": {"is_alphabet": "(value)", "is_word": "(alphabet, value)", "words_to": "(alphabet, length)"},
    "parting": {"first_difference": "(one, other)", "differences": "(one, other, length)"},
    "turns": {
        "image": "(machine, states, word)", "turn": "(machine, states, word)", "turns": "(machine, states)",
        "series": "(machine, states)", "ring_sizes": "(machine)",
    },
    "translate": {
        "machine_of": "(circuit, *, most=400)", "strays": "(circuit, machine, *, most=2000)", "judge_of": "(circuit, accepted)",
        "circuit_of": "(formula)", "judge_of_formula": "(formula)", "formula_of": "(circuit, accepted)",
    },
    "build": {"build": "(machine, *primes)", "formula_for": "(judge, *primes)"},
    "pages": {"write_page": "(shelf)", "read_page": "(text)"},
}
MACHINE_METHODS = {
    "rows": "()", "after": "(word)", "led": "(state, word)", "reachable": "()", "first_word": "(state)", "read": "(text)",
}
CLASSES = {
    "machines": {
        "Machine": ("(alphabet, rows, *, start=0)", MACHINE_METHODS, ["alphabet", "start", "text"]),
        "Judge": (
            "(alphabet, rows, accepted, *, start=0)",
            {"accepted": "()", "least": "()", "within": "(other)", "read": "(text)"},
            [],
        ),
    },
    "circuits": {
        "Circuit": (
            "(alphabet, lines)",
            {"lines": "()", "sizes": "()", "after": "(word)", "sides_after": "(word)", "looks": "(line)", "listing": "()", "read": "(text)"},
            ["alphabet", "cells", "primes", "text"],
        ),
    },
    "formulas": {
        "Formula": (
            "(alphabet, lines, *, first=False)", {"lines": "()", "truths": "(word)", "read": "(text)"}, ["alphabet", "first", "text"],
        ),
    },
    "answers": {
        "Answer": ("(machine)", {"holds": "(*primes)", "told": "()"}, ["is_built"]),
        "Built": ("(machine, circuit, levels)", {"holds": "(*primes)", "told": "()"}, ["is_built"]),
        "Ring": ("(machine, word, states)", {"holds": "(*primes)", "told": "()"}, ["is_built"]),
        "Knot": ("(machine, states, words, products)", {"holds": "(*primes)", "told": "()"}, ["is_built"]),
    },
    "live": {
        "Run": (
            "(circuit, *, limit=100)",
            {
                "set_limit": "(limit)", "feed": "(letter)", "feed_all": "(word)", "undo": "()", "redo": "()", "history": "()",
                "mark": "(name)", "back": "(name)", "marks": "()", "watch": "(formula)", "says": "(number)", "twin": "()",
            },
            ["source", "so_far", "value", "sides", "busy", "limit"],
        ),
    },
    "shelf": {
        "Shelf": (
            "()",
            {
                "put": "(name, thing)", "remove": "(name)", "rename": "(name, fresh)", "names": "(*kinds)", "kind": "(name)", "undo": "()",
                "redo": "()", "history": "()", "build": "(name, fresh, *primes)", "difference": "(one, other)", "kept": "()", "twin": "()",
            },
            ["computed"],
        ),
    },
}
SIGNS = {
    Machine: ["__len__", "__eq__", "__repr__"],
    Judge: ["__contains__", "__and__", "__or__", "__neg__", "__repr__"],
    Circuit: ["__len__", "__eq__", "__repr__"],
    Formula: ["__len__", "__contains__", "__and__", "__or__", "__neg__", "__eq__", "__repr__"],
    Run: ["__len__", "__call__", "__iadd__"],
    Shelf: ["__setitem__", "__getitem__", "__contains__", "__len__", "__eq__", "__repr__"],
}


class NamesTest(unittest.TestCase):
    def test_functions(self):
        for file, functions in FUNCTIONS.items():
            module = importlib.import_module("onlyahead." + file)
            for name, signature in functions.items():
                function = getattr(module, name)
                self.assertEqual(str(inspect.signature(function)), signature, name)
                self.assertEqual(function.__module__, module.__name__)

    def test_classes(self):
        for file, classes in CLASSES.items():
            module = importlib.import_module("onlyahead." + file)
            for name, (signature, methods, properties) in classes.items():
                made = getattr(module, name)
                self.assertEqual(made.__module__, module.__name__)
                self.assertEqual(str(inspect.signature(made)), signature, name)
                for method, parameters in methods.items():
                    self.assertIn(method, vars(made), name)
                    found = inspect.signature(getattr(made, method))
                    listed = list(found.parameters.values())
                    if not isinstance(vars(made)[method], classmethod):
                        listed = listed[1:]
                    self.assertEqual(str(found.replace(parameters=listed)), parameters, (name, method))
                for name_of_property in properties:
                    self.assertIsInstance(vars(made)[name_of_property], property)

    def test_signs(self):
        for made, methods in SIGNS.items():
            for method in methods:
                self.assertIn(method, vars(made), (made, method))

    def test_class_values(self):
        self.assertEqual((Machine.MOST, Judge.MOST, Circuit.MOST, Formula.MOST, Run.MOST, Shelf.MOST), (1000, 1000, 4000, 4000, 1000, 20))

    def test_class_methods(self):
        for made in (Machine, Judge, Circuit, Formula):
            self.assertIsInstance(vars(made)["read"], classmethod)


class GeneratorTest(unittest.TestCase):
    def test_errors_when_the_first_item_is_asked_for(self):
        one, other = Judge("a", [(0,)], [0]), Judge("ab", [(0, 0)], [0])
        for items in (words_to("ba", 1), differences(one, other, 1)):
            with self.assertRaises(AheadError):
                next(items)


class NumbersTest(unittest.TestCase):
    def test_booleans_are_no_numbers(self):
        machine = Machine("a", [(1,), (0,)])
        circuit = Circuit("a", [("const", 1)])
        for call in (
            lambda: Machine("a", [(True,), (0,)]), lambda: Machine("a", [(0,)], start=False), lambda: machine.led(True, ""),
            lambda: machine.first_word(True), lambda: Judge("a", [(0,)], [False]), lambda: Circuit("a", [("const", True)]),
            lambda: circuit.looks(False), lambda: Formula("a", [("is", "a"), ("not", False)]), lambda: build(machine, True),
            lambda: Run(circuit, limit=True),
        ):
            with self.assertRaises(AheadError):
                call()


class WaysTest(unittest.TestCase):
    def check_ways(self, judge, *primes):
        """Goes through all forms and back to the least judge; whether it can be built."""
        least = judge.least()
        answer = build(judge, *primes)
        try:
            formula = formula_for(judge, *primes)
        except Barred as barred:
            self.assertTrue(barred.answer.holds(*primes))
            self.assertFalse(barred.answer.is_built)
            return False
        self.assertEqual(judge_of_formula(formula), least)
        circuit = circuit_of(formula)
        self.assertEqual(judge_of(circuit, [1]), least)
        self.assertEqual(judge_of_formula(formula_of(circuit, [1])), least)
        self.assertEqual(judge_of(build(least, *primes).circuit, least.accepted()), least)
        if answer.is_built:
            self.assertEqual(judge_of(answer.circuit, judge.accepted()), least)
            self.assertIsNone(first_difference(judge_of(answer.circuit, judge.accepted()), judge))
            machine, values = machine_of(answer.circuit)
            self.assertIsNone(strays(answer.circuit, judge))
            self.assertEqual([values[machine.after(word)] for word in ("", "a", "aa")], [judge.after(word) for word in ("", "a", "aa")])
        return True

    def test_two_and_three_states(self):
        for alphabet, states in (("a", 4), ("ab", 3), ("abc", 3), ("abcd", 2)):
            for judge in some_judges(91, 25, alphabet, states):
                self.assertTrue(self.check_ways(judge, 2, 3))
                self.check_ways(judge, 2)
                self.check_ways(judge, 5, 3)

    def test_four_states(self):
        count = 0
        for judge in some_judges(92, 40, "ab", 4):
            try:
                count += self.check_ways(judge, 3, 2)
            except TooMany as wrong:
                self.assertEqual((wrong.subject, wrong.most), ("sides", 400))
        self.assertGreater(count, 25)

    def test_formulas_to_judges_to_formulas(self):
        chance = random.Random(93)
        for _ in range(20):
            refs = sorted(chance.sample(range(4), 2))
            formula = Formula("ab", [
                ("is", "a"), ("count", 0, 2, chance.randrange(2)), ("before", chance.randrange(2)), ("is", "b"),
                (chance.choice(["and", "or"]), tuple(refs)), ("since", 3, 4),
            ], first=chance.random() < 0.5)
            judge = judge_of_formula(formula)
            if len(judge) <= 4 and build(judge, 2, 3).is_built:
                again = formula_for(judge, 2, 3)
                for word in all_words("ab", 6):
                    self.assertIs(word in again, word in formula)

    def test_through_a_page(self):
        shelf = Shelf()
        shelf["judge"] = some_judges(94, 1, "ab", 3)[0]
        answer = shelf.build("judge", "circuit", 2, 3)
        self.assertIsInstance(answer, Built)
        shelf["formula"] = formula_of(shelf["circuit"], shelf["judge"].accepted())
        shelf["back"] = judge_of_formula(shelf["formula"])
        again = read_page(write_page(shelf))
        self.assertEqual(again, shelf)
        self.assertIsNone(again.difference("judge", "back"))
        run = Run(again["circuit"])
        number = run.watch(again["formula"])
        for letter in "abbabaab":
            run.feed(letter)
            self.assertIs(run.says(number), run.so_far in again["back"])
            self.assertIs(run.value in again["judge"].accepted(), run.says(number))


class UnlikeErrorsTest(unittest.TestCase):
    def test_three_kinds(self):
        run = Run(Circuit("a", [("const", 0)]))
        with self.assertRaises(NothingLeft) as caught:
            run.undo()
        self.assertIsInstance(caught.exception, IndexError)
        self.assertNotIsInstance(caught.exception, (AheadError, Missing))
        with self.assertRaises(Missing) as caught:
            run.back("x")
        self.assertIsInstance(caught.exception, LookupError)
        self.assertNotIsInstance(caught.exception, (AheadError, IndexError, KeyError))


if __name__ == "__main__":
    unittest.main()
