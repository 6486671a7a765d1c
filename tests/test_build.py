"""Building circuits for machines, and formulas for judges."""

import itertools
import random
import unittest

from helping import STRANGE, all_words, ring, some_judges, some_machines
from onlyahead.answers import Built, Knot, Ring
from onlyahead.build import build, formula_for
from onlyahead.errors import Barred, InvalidPrime, TooMany
from onlyahead.machines import Judge, Machine
from onlyahead.translate import judge_of, judge_of_formula, strays
from onlyahead.turns import series, turns

# Two letters that turn all states, and the primes that divide the number of the turns.
SOLUBLE = {
    "four states, each way": ([(1, 2, 3, 0), (1, 0, 2, 3)], (2, 3)),
    "four states, even": ([(1, 2, 0, 3), (1, 0, 3, 2)], (2, 3)),
    "a square": ([(1, 2, 3, 0), (0, 3, 2, 1)], (2,)),
    "two pairs": ([(1, 0, 3, 2), (2, 3, 0, 1)], (2,)),
    "five states around": ([(1, 2, 3, 4, 0), (2, 3, 4, 0, 1)], (5,)),
    "a pentagon": ([(1, 2, 3, 4, 0), (0, 4, 3, 2, 1)], (2, 5)),
    "five states, multiplied by two": ([(1, 2, 3, 4, 0), (0, 2, 4, 1, 3)], (2, 5)),
    "three and two states": ([(1, 2, 0, 4, 3), (1, 0, 2, 3, 4)], (2, 3)),
    "six states around": ([(1, 2, 3, 4, 5, 0), (1, 2, 3, 4, 5, 0)], (2, 3)),
    "two triangles, exchanged": ([(1, 2, 0, 3, 4, 5), (3, 4, 5, 0, 1, 2)], (2, 3)),
    "two triangles, each way": ([(1, 0, 2, 3, 4, 5), (3, 4, 5, 1, 2, 0)], (2, 3)),
    "three pairs, each way": ([(1, 0, 2, 3, 4, 5), (2, 3, 4, 5, 1, 0)], (2, 3)),
    "three pairs, around, even": ([(1, 0, 3, 2, 4, 5), (2, 3, 4, 5, 0, 1)], (2, 3)),
    "four and two states": ([(1, 2, 3, 0, 5, 4), (1, 0, 2, 3, 4, 5)], (2, 3)),
    "a triangle in two ways": ([(1, 2, 0, 4, 5, 3), (3, 5, 4, 0, 2, 1)], (2, 3)),
    "five around and one": ([(1, 2, 3, 4, 0, 5), (0, 4, 3, 2, 1, 5)], (2, 5)),
}
KNOTTED = {
    "five states, even": [(1, 2, 3, 4, 0), (1, 2, 0, 3, 4)],
    "five states, each way": [(1, 2, 3, 4, 0), (1, 0, 2, 3, 4)],
    "six states, even": [(1, 2, 3, 4, 0, 5), (0, 1, 2, 4, 5, 3)],
    "six states, each way": [(1, 2, 3, 4, 5, 0), (1, 0, 2, 3, 4, 5)],
    "five even ones of six": [(1, 2, 3, 4, 0, 5), (0, 2, 1, 3, 5, 4)],
    "six states like five, even": [(1, 2, 3, 4, 0, 5), (5, 4, 2, 3, 1, 0)],
}


def turned_by(columns, more=(), start=0):
    """A machine with a letter for each column, which has a state for each state."""
    columns = [*columns, *more]
    return Machine("abcd"[: len(columns)], list(zip(*columns)), start=start)


def all_reached(columns):
    """A machine with a letter for each column, and with letters that set, so that all states are reachable."""
    size, more = len(columns[0]), []
    machine = turned_by(columns)
    while len(machine.reachable()) < size:
        # This letter makes all states one, so it adds no turns but those of single states.
        more.append([min(set(range(size)) - set(machine.reachable()))] * size)
        machine = turned_by(columns, more)
    return machine


def prime_divisors(number):
    return [prime for prime in (2, 3, 5) if number % prime == 0]


def is_buildable(machine, primes):
    """By the words of the document, over all sets of reachable states."""
    states = machine.reachable()
    for many in range(1, len(states) + 1):
        for chosen in itertools.combinations(states, many):
            if series(machine, chosen)[-1] != 1:
                return False
            if not set(prime_divisors(len(turns(machine, chosen)))) <= set(primes):
                return False
    return True


class Case(unittest.TestCase):
    def check_answer(self, machine, *primes):
        """That the answer is the right one and holds; returns it."""
        answer = build(machine, *primes)
        self.assertIs(answer.machine, machine)
        self.assertIs(answer.holds(*primes), True, (machine.text, primes))
        self.assertIs(answer.is_built, isinstance(answer, Built))
        if answer.is_built:
            self.assertLessEqual(set(answer.circuit.primes), set(primes))
            self.check_stands(answer.circuit, machine)
        else:
            self.assertIsInstance(answer, (Ring, Knot))
        return answer

    def check_stands(self, circuit, machine):
        self.assertEqual(circuit.alphabet, machine.alphabet)
        try:
            self.assertIsNone(strays(circuit, machine, most=300))
        except TooMany:
            pass
        chance = random.Random(len(circuit))
        word = "".join(chance.choice(machine.alphabet) for _ in range(60))
        for end in range(0, 61, 3):
            self.assertEqual(circuit.after(word[:end]), machine.after(word[:end]), (machine.text, word[:end]))


class BuildTest(Case):
    def test_one_state(self):
        for machine in (Machine("a", [(0,)]), Machine("abcd", [(0, 0, 0, 0)]), Machine("ab", [(1, 0), (1, 1)], start=1)):
            self.assertIsInstance(self.check_answer(machine), Built)
            self.assertIsInstance(self.check_answer(machine, 2, 97), Built)

    def test_all_machines_of_two_states(self):
        for rows in itertools.product(itertools.product(range(2), repeat=2), repeat=2):
            for start in range(2):
                machine = Machine("ab", rows, start=start)
                for primes in ((), (2,), (3, 5)):
                    self.assertIs(self.check_answer(machine, *primes).is_built, is_buildable(machine, primes))

    def test_machines_of_three_states(self):
        columns = list(itertools.product(range(3), repeat=3))
        chance = random.Random(61)
        for _ in range(120):
            machine = turned_by(chance.sample(columns, chance.randint(1, 4)), start=chance.randrange(3))
            for primes in ((), (2,), (3,), (2, 3), (5, 7)):
                self.assertIs(self.check_answer(machine, *primes).is_built, is_buildable(machine, primes))

    def test_many_machines(self):
        for states, alphabet, many in ((4, "ab", 60), (5, "abc", 30), (6, "ab", 20), (6, "abcd", 6)):
            for machine in some_machines(62, many, alphabet, states):
                for primes in ((2, 3, 5), (3, 2), (2,), ()):
                    self.assertIs(self.check_answer(machine, *primes).is_built, is_buildable(machine, primes))

    def test_turns_with_letters_that_set(self):
        chance = random.Random(63)
        for columns, primes in SOLUBLE.values():
            size = len(columns[0])
            merged = list(range(size))
            merged[chance.randrange(size)] = chance.randrange(size)
            machine = turned_by(columns, [[chance.randrange(size)] * size, merged], start=chance.randrange(size))
            if is_buildable(machine, (2, 3, 5)):
                self.assertIsInstance(self.check_answer(machine, 2, 3, 5), Built)
            else:
                self.assertIsInstance(self.check_answer(machine, 2, 3, 5, 7), Knot)

    def test_states_that_are_not_reachable(self):
        rows = [(1, 0), (0, 1), *[(state + 1, 2) for state in range(2, 11)], (2, 3)]
        machine = Machine("ab", rows)
        self.assertEqual(len(machine.reachable()), 2)
        self.assertIsInstance(self.check_answer(machine, 2), Built)
        self.assertIsInstance(self.check_answer(machine, 3), Ring)
        # The states may have great numbers.
        machine = Machine("a", [*[(0,)] * 994, (995,), (996,), (997,), (998,), (999,), (994,)], start=996)
        answer = self.check_answer(machine, 3, 2)
        self.assertIsInstance(answer, Built)
        self.assertEqual([answer.circuit.after("a" * many) for many in range(7)], [996, 997, 998, 999, 994, 995, 996])

    def test_judges(self):
        judge = Judge("ab", [(1, 0), (0, 1)], [1])
        self.assertIsInstance(self.check_answer(judge, 2), Built)
        self.assertIsInstance(self.check_answer(judge, 3), Ring)

    def test_rings(self):
        for size, primes, built in [
            (2, (2,), True), (2, (3, 5, 7), False), (3, (3,), True), (3, (2, 5), False), (4, (2,), True), (4, (3,), False),
            (5, (5,), True), (5, (2, 3, 7), False), (6, (2, 3), True), (6, (2,), False), (6, (3,), False), (6, (), False),
        ]:
            answer = self.check_answer(ring(size), *primes)
            self.assertIsInstance(answer, Built if built else Ring)
            if built:
                self.assertEqual(set(answer.circuit.primes), set(primes))


class TurnsTest(Case):
    def test_soluble(self):
        for name, (columns, needed) in SOLUBLE.items():
            machine = all_reached(columns)
            numbers = {prime for prime in (2, 3, 5) if len(turns(machine, tuple(machine.reachable()))) % prime == 0}
            self.assertEqual(numbers, set(needed), name)
            self.assertIsInstance(self.check_answer(machine, *needed), Built, name)
            self.assertIsInstance(self.check_answer(machine, *needed[::-1], *needed, 97), Built, name)
            self.assertIsInstance(self.check_answer(machine, 7, 5, 3, 2), Built, name)
            for prime in needed:
                others = [other for other in (2, 3, 5, 7, 11) if other != prime]
                answer = self.check_answer(machine, *others)
                self.assertIsInstance(answer, Ring, name)
                self.assertEqual(len(answer.states), prime)

    def test_knotted(self):
        for name, columns in KNOTTED.items():
            machine = all_reached(columns)
            self.check_knotted(machine, name)
            self.assertFalse(is_buildable(machine, (2, 3, 5, 7)))

    def test_knotted_with_letters_that_set(self):
        for name, columns in KNOTTED.items():
            size = len(columns[0])
            last = [size - 1] * size
            self.check_knotted(turned_by(columns, [last]), name)

    def check_knotted(self, machine, name):
        for primes in ((2, 3, 5, 7), (7, 5, 3, 2, 2), (2, 3, 5), (97, 2, 3, 5)):
            answer = self.check_answer(machine, *primes)
            self.assertIsInstance(answer, Knot, name)
        for primes in ((), (2,), (2, 3), (3, 5), (2, 5), (7,)):
            self.assertFalse(self.check_answer(machine, *primes).is_built)

    def test_a_knot_of_five_of_six_states(self):
        # Five states are turned in all even ways, and the sixth one, the start, is left at once.
        machine = Machine("ab", [(1, 1), (2, 2), (3, 0), (4, 3), (0, 4), (0, 0)], start=5)
        answer = self.check_answer(machine, 2, 3, 5, 7)
        self.assertIsInstance(answer, Knot)
        self.assertEqual(answer.states, (0, 1, 2, 3, 4))


class ErrorTest(Case):
    def test_too_many_states_come_first(self):
        for machine in (ring(7), ring(8), Machine("ab", [(state + 1, 0) for state in range(6)] + [(6, 6)])):
            for primes in ((), (4,), (2, 3, 7), (None,)):
                with self.assertRaises(TooMany) as caught:
                    build(machine, *primes)
                self.assertEqual((caught.exception.subject, caught.exception.most), ("states", 6))

    def test_wrong_primes(self):
        for value in [*STRANGE, 0, 1, 4, 9, 91, 98, 99, 100, 101, -2, (2,), [2], "2"]:
            if value != 3 or value is True:
                for primes in ((value,), (2, value), (2, 97, value, 3), (value, 4), (2, value, None)):
                    with self.assertRaises(InvalidPrime) as caught:
                        build(ring(2), *primes)
                    self.assertEqual(caught.exception.given, value)
                    self.assertIs(caught.exception.given.__class__, value.__class__)
        for prime in (2, 3, 5, 7, 89, 97):
            self.check_answer(ring(2), prime)

    def test_by_name(self):
        self.assertTrue(build(machine=ring(1)).is_built)
        self.assertIn("", formula_for(judge=Judge("a", [(0,)], [0])))


class EqualCallsTest(Case):
    def test_equal_calls(self):
        for machine in [*some_machines(64, 20, "ab", 6), turned_by(KNOTTED["five states, even"])]:
            for primes in ((2, 3, 5), (2,)):
                one, other = build(machine, *primes), build(machine, *primes)
                self.assertEqual((one.told(), vars(one)), (other.told(), vars(other)))


class FormulaForTest(unittest.TestCase):
    def check_words(self, judge, formula, primes):
        self.assertEqual(formula.alphabet, judge.alphabet)
        for word in all_words(judge.alphabet, {1: 9, 2: 5, 3: 4, 4: 3}[len(judge.alphabet)]):
            self.assertIs(word in formula, word in judge, (judge.text, word))
        counted = {line[2] for line in formula.lines() if line[0] == "count"}
        self.assertLessEqual(counted, set(primes))

    def test_words(self):
        for alphabet, states, many in (("a", 6, 20), ("ab", 5, 30), ("abcd", 3, 20)):
            for judge in some_judges(65, many, alphabet, states):
                for primes in ((2, 3, 5), (5, 3, 2, 2), (2,), ()):
                    if build(judge.least(), *primes).is_built:
                        self.check_words(judge, formula_for(judge, *primes), primes)

    def test_barred(self):
        count = 0
        for judge in some_judges(66, 40, "ab", 5):
            for primes in ((), (2,), (3, 5)):
                try:
                    formula = formula_for(judge, *primes)
                except Barred as barred:
                    answer = barred.answer
                    self.assertFalse(answer.is_built)
                    self.assertTrue(answer.holds(*primes))
                    self.assertEqual(answer.machine, judge.least())
                    self.assertFalse(is_buildable(judge.least(), primes))
                    count += 1
                else:
                    self.check_words(judge, formula, primes)
                    self.assertTrue(is_buildable(judge.least(), primes))
        self.assertGreater(count, 10)

    def test_knotted(self):
        machine = turned_by(KNOTTED["five states, even"])
        with self.assertRaises(Barred) as caught:
            formula_for(Judge("ab", machine.rows(), [2]), 2, 3, 5, 7)
        self.assertIsInstance(caught.exception.answer, Knot)
        self.assertTrue(caught.exception.answer.holds(2, 3, 5, 7))

    def test_the_least_judge_counts(self):
        # Two judges of many states that are alike, so that the least judge has two states.
        rows = [((state + 1) % 8, (state + 3) % 8) for state in range(8)]
        judge = Judge("ab", rows, [0, 2, 4, 6])
        self.check_words(judge, formula_for(judge, 2), (2,))
        wide = Judge("ab", rows, [0, 1])
        for primes in ((2,), (4,)):
            with self.assertRaises(TooMany) as caught:
                formula_for(wide, *primes)
            self.assertEqual((caught.exception.subject, caught.exception.most), ("states", 6))
        with self.assertRaises(InvalidPrime) as caught:
            formula_for(judge, 2, 6, 4)
        self.assertEqual(caught.exception.given, 6)

    def test_no_bound_up_to_three_states(self):
        columns = list(itertools.product(range(3), repeat=3))
        chance = random.Random(67)
        for _ in range(150):
            machine = turned_by(chance.sample(columns, 4), start=chance.randrange(3))
            judge = Judge("abcd", machine.rows(), chance.choice([[0], [1], [2], [0, 1], [1, 2]]), start=machine.start)
            formula = formula_for(judge, 3, 2)
            self.assertEqual(judge_of_formula(formula), judge.least())

    def test_all_turns_and_all_that_sets(self):
        judge = Judge("abcd", list(zip((1, 2, 0), (1, 0, 2), (0, 0, 2), (2, 2, 2))), [1])
        self.assertEqual(judge_of_formula(formula_for(judge, 2, 3)), judge.least())
        answer = build(judge, 2, 3)
        self.assertEqual(judge_of(answer.circuit, [1]), judge.least())


if __name__ == "__main__":
    unittest.main()
