"""Ways between circuits, machines, judges and formulas."""

import random
import unittest

from helping import all_words, counting, ring, some_circuits, some_formula, some_formulas, some_machines, ticking, weight
from onlyahead.circuits import Circuit
from onlyahead.errors import AlphabetsDiffer, TooMany
from onlyahead.formulas import Formula
from onlyahead.machines import Judge, Machine
from onlyahead.translate import circuit_of, formula_of, judge_of, judge_of_formula, machine_of, strays

# The cell keeps the last letter, and the counter counts the changes of letters, modulo 3.
CHANGES = [
    ("letter",),
    ("wire", 0, (1, 2)),
    ("latch", 2, 0, 1),
    ("join", 0, 2, ((0, 1), (1, 0))),
    ("counter", 3, 0, 3),
    ("wire", 4, (10, 20, 30)),
]


def plain_machine(circuit):
    """The machine of a circuit and its values, by running the circuit on whole words."""
    words, places = [""], {tuple(circuit.sides_after("")): 0}
    rows = []
    for word in words:
        row = []
        for letter in circuit.alphabet:
            sides = tuple(circuit.sides_after(word + letter))
            if sides not in places:
                places[sides] = len(words)
                words.append(word + letter)
            row.append(places[sides])
        rows.append(tuple(row))
    return Machine(circuit.alphabet, rows), [circuit.after(word) for word in words]


def small_circuits(seed, many, alphabet, length, most):
    """Circuits with at most this many lists of sides after words."""
    found = []
    for circuit in some_circuits(seed, many, alphabet, length):
        try:
            machine_of(circuit, most=most)
        except TooMany:
            continue
        found.append(circuit)
    return found


def numbering(circuit):
    """The circuit without its last line, with a last line whose value tells all sides apart, or None."""
    lines = circuit.lines()[:-1]
    cells = [cell for cell in circuit.cells if cell < len(lines)]
    reached, many = None, 1
    for cell in cells:
        size = circuit.sizes()[cell]
        if reached is None:
            reached, many = cell, size
        elif many * size <= 1000:
            table = tuple(tuple(one * size + other for other in range(size)) for one in range(many))
            lines.append(("join", reached, cell, table))
            reached, many = len(lines) - 1, many * size
        else:
            return None
    return Circuit(circuit.alphabet, [*lines, ("wire", reached, tuple(range(many)))]) if cells else None


class Case(unittest.TestCase):
    def check_too_many(self, subject, bound, call, *args, **more):
        with self.assertRaises(TooMany) as caught:
            call(*args, **more)
        self.assertEqual((caught.exception.subject, caught.exception.most), (subject, bound))


class MachineOfTest(Case):
    def test_ordinary(self):
        machine, values = machine_of(Circuit("ab", CHANGES))
        self.assertEqual(machine, Machine("ab", [(0, 1), (2, 1), (2, 3), (4, 3), (4, 5), (0, 5)]))
        self.assertEqual(values, [10, 20, 30, 10, 20, 30])
        self.assertIs(machine.__class__, Machine)
        self.assertIsInstance(machine_of(Circuit("ab", CHANGES)), tuple)

    def test_no_cells(self):
        self.assertEqual(machine_of(Circuit("abc", [("const", 5)])), (Machine("abc", [(0, 0, 0)]), [5]))

    def test_against_runs_of_the_circuit(self):
        for alphabet in ("a", "ab", "acd"):
            for circuit in small_circuits(21, 80, alphabet, 9, 120):
                machine, values = machine_of(circuit)
                self.assertEqual((machine, values), plain_machine(circuit))
                for word in all_words(alphabet, 4):
                    self.assertEqual(values[machine.after(word)], circuit.after(word))
                firsts = [machine.first_word(state) for state in range(len(machine))]
                self.assertEqual(firsts, sorted(firsts, key=lambda word: (len(word), word)))

    def test_bound(self):
        circuit = ticking([5, 3])
        self.assertEqual(machine_of(circuit, most=15)[0], ring(15))
        self.assertEqual(machine_of(circuit, most=16)[0], ring(15))
        self.assertEqual(machine_of(circuit)[1], [0, 1, 2, 3, 4] * 3)
        for most in (14, 13, 1):
            self.check_too_many("sides", most, machine_of, circuit, most=most)
        self.assertEqual(len(machine_of(Circuit("a", [("const", 5)]), most=1)[0]), 1)
        self.assertEqual(len(machine_of(ticking([5, 5, 5, 2, 2, 2]), most=1000)[0]), 1000)
        self.check_too_many("sides", 1000, machine_of, ticking([5, 5, 5, 2, 2, 2], late=True), most=1000)

    def test_default_bound(self):
        self.assertEqual(machine_of(ticking([5, 5, 2, 2, 2, 2]))[0], ring(400))
        self.check_too_many("sides", 400, machine_of, ticking([5, 5, 2, 2, 2, 2], late=True))
        self.assertEqual(len(machine_of(ticking([5, 5, 2, 2, 2, 2], late=True), most=401)[0]), 401)

    def test_by_name(self):
        self.assertEqual(machine_of(circuit=ticking([2]), most=2), machine_of(ticking([2])))
        with self.assertRaises(TypeError):
            machine_of(ticking([2]), 2)

    def test_the_list_is_new(self):
        circuit = ticking([2])
        machine_of(circuit)[1].append(7)
        self.assertEqual(machine_of(circuit)[1], [0, 1])


class StraysTest(Case):
    def test_none(self):
        self.assertIsNone(strays(ticking([5]), ring(5)))
        self.assertIsNone(strays(ticking([5]), counting(5)))
        self.assertIsNone(strays(ticking([5, 3]), ring(5)))
        self.assertIsNone(strays(Circuit("ab", [("const", 2)]), Machine("ab", [(1, 0), (0, 0), (2, 2)], start=2)))

    def test_first_word(self):
        self.assertEqual(strays(ticking([5]), Machine("a", ring(5).rows(), start=1)), "")
        self.assertEqual(strays(ticking([5]), ring(6)), "aaaaa")
        self.assertEqual(strays(ticking([5]), ring(4)), "aaaa")
        self.assertEqual(strays(Circuit("ab", [("const", 0)]), Machine("ab", [(0, 1), (0, 0)])), "b")
        self.assertEqual(strays(Circuit("ab", [("const", 0)]), Machine("ab", [(1, 1), (0, 0)])), "a")
        self.assertEqual(strays(Circuit("ab", [("const", 700)]), Machine("ab", [(0, 0)])), "")

    def test_against_all_words(self):
        for circuit in small_circuits(22, 60, "ab", 6, 60):
            for machine in some_machines(23, 4, "ab", 3):
                words = [word for word in all_words("ab", 4) if circuit.after(word) != machine.after(word)]
                if words:
                    self.assertEqual(strays(circuit, machine), words[0])

    def test_bent_machines(self):
        chance = random.Random(24)
        found = 0
        for circuit in small_circuits(25, 150, "ab", 6, 400):
            plain = numbering(circuit)
            if plain is None:
                continue
            exact, values = machine_of(plain)
            # The values tell the sides apart, so they can be the states of a machine.
            rows = [(chance.randrange(max(values) + 1), 0) for _ in range(max(values) + 1)]
            for state, row in enumerate(exact.rows()):
                rows[values[state]] = tuple(values[target] for target in row)
            self.assertIsNone(strays(plain, Machine("ab", rows, start=values[0]), most=len(exact)))
            bent = chance.choice(values)
            rows[bent] = (chance.randrange(len(rows)), rows[bent][1])
            machine = Machine("ab", rows, start=values[0])
            word = strays(plain, machine)
            if word is not None and len(word) < 9:
                words = [other for other in all_words("ab", len(word)) if plain.after(other) != machine.after(other)]
                self.assertEqual(word, words[0])
                found += 1
        self.assertGreater(found, 20)

    def test_alphabets(self):
        for most in (1, 2000):
            with self.assertRaises(AlphabetsDiffer):
                strays(Circuit("ab", [("const", 1)]), Machine("a", [(0,)]), most=most)

    def test_bound(self):
        self.assertIsNone(strays(ticking([5, 3]), ring(5), most=15))
        self.check_too_many("pairs", 14, strays, ticking([5, 3]), ring(5), most=14)
        self.check_too_many("pairs", 1, strays, ticking([5, 3]), ring(5), most=1)
        self.assertIsNone(strays(Circuit("a", [("const", 0)]), Machine("a", [(0,)]), most=1))
        # The machine has 10 states that the circuit cannot tell apart, so there are 30 pairs of sides and states.
        wide = Machine("ab", [(0, 0)] * 10)
        self.assertIsNone(strays(Circuit("ab", [("const", 0)]), wide, most=1))

    def test_difference_within_the_bound(self):
        late = Machine("a", [(1,), (2,), (3,), (4,), (5,), (0,)])
        for most in (6, 7, 2000):
            self.assertEqual(strays(ticking([5]), late, most=most), "aaaaa")
        # The sixth pair is the first one that differs: it does not lie within the bound.
        self.check_too_many("pairs", 5, strays, ticking([5]), late, most=5)
        self.check_too_many("pairs", 2, strays, ticking([5]), late, most=2)
        self.assertEqual(strays(ticking([5]), Machine("a", late.rows(), start=3), most=1), "")

    def test_default_bound(self):
        even = [5, 5, 5, 2, 2, 2, 2]
        self.assertIsNone(strays(ticking(even), ring(5)))
        self.check_too_many("pairs", 2000, strays, ticking(even, late=True), ring(5))
        self.assertIsNone(strays(ticking(even, late=True), ring(5), most=2001))
        self.assertIsNone(strays(ticking(even + [2]), ring(5), most=4000))

    def test_by_name(self):
        self.assertIsNone(strays(machine=ring(5), circuit=ticking([5]), most=5))
        with self.assertRaises(TypeError):
            strays(ticking([5]), ring(5), 5)


class JudgeOfTest(Case):
    def test_ordinary(self):
        self.assertEqual(judge_of(ticking([5, 3]), [2]), counting(5, 2).least())
        self.assertEqual(judge_of(ticking([5]), [0, 1, 2, 3, 4]), Judge("a", [(0,)], [0]))
        self.assertEqual(judge_of(Circuit("ab", CHANGES), [10]), judge_of(Circuit("ab", CHANGES), (10,)))

    def test_against_runs_of_the_circuit(self):
        chance = random.Random(24)
        for alphabet in ("a", "ab", "abc"):
            for circuit in small_circuits(25, 60, alphabet, 8, 100):
                accepted = [worth for worth in range(100) if chance.random() < 0.5]
                judge = judge_of(circuit, accepted)
                self.assertEqual(judge, judge.least())
                self.assertIs(judge.__class__, Judge)
                for word in all_words(alphabet, 4):
                    self.assertIs(word in judge, circuit.after(word) in accepted)

    def test_numbers_of_all_kinds(self):
        circuit = Circuit("ab", CHANGES)
        plain = judge_of(circuit, [20])
        self.assertEqual(judge_of(circuit, [20, 20, 20]), plain)
        self.assertEqual(judge_of(circuit, [0, 20, 1, 999, 10 ** 8, 31]), plain)
        self.assertEqual(judge_of(circuit, [30, 10, 30]), -plain)
        self.assertEqual(judge_of(circuit, []), Judge("ab", [(0, 0)], []))
        self.assertEqual(judge_of(circuit, [0, 1, 2]), Judge("ab", [(0, 0)], []))
        self.assertEqual(judge_of(circuit, list(range(1000))), Judge("ab", [(0, 0)], [0]))

    def test_bound(self):
        self.assertEqual(len(judge_of(ticking([5, 5, 2, 2, 2, 2]), [0])), 5)
        self.check_too_many("sides", 400, judge_of, ticking([5, 5, 2, 2, 2, 2], late=True), [0])

    def test_by_name(self):
        self.assertEqual(judge_of(accepted=[2], circuit=ticking([5])), judge_of(ticking([5]), [2]))


class CircuitOfTest(Case):
    def check_words(self, formula, length):
        circuit = circuit_of(formula)
        self.assertIs(circuit.__class__, Circuit)
        self.assertEqual(circuit.alphabet, formula.alphabet)
        for word in all_words(formula.alphabet, length):
            self.assertEqual(circuit.after(word), 1 if word in formula else 0, (formula.text, word))

    def test_words(self):
        for alphabet, length in (("a", 9), ("ab", 5), ("abcd", 3)):
            for formula in some_formulas(26, 80, alphabet, 9):
                self.check_words(formula, length)

    def test_each_kind_last(self):
        ahead = [("is", "a"), ("is", "b"), ("is", ""), ("is", "ab")]
        for line in [
            ("is", ""), ("is", "a"), ("is", "ab"), ("and", ()), ("or", ()), ("and", (2,)), ("or", (3,)), ("and", (0, 3)),
            ("or", (0, 1)), ("or", (0, 1, 2, 3)), ("and", (0, 1, 2, 3)), ("not", 2), ("not", 3), ("not", 0), ("before", 0), ("before", 2),
            ("before", 3), ("since", 0, 1), ("since", 2, 1), ("since", 3, 1), ("since", 0, 2), ("since", 0, 3), ("since", 2, 2),
            ("count", 0, 2, 1), ("count", 0, 3, 0), ("count", 2, 5, 0), ("count", 2, 5, 1), ("count", 3, 7, 2),
        ]:
            for first in (True, False):
                self.check_words(Formula("ab", [*ahead, line], first=first), 5)
                self.check_words(Formula("ab", [*ahead, line, ("not", 4)], first=first), 4)
                self.check_words(Formula("ab", [*ahead, line, ("before", 4), ("since", 4, 5)], first=first), 4)

    def test_primes(self):
        for formula in some_formulas(27, 80, "ab", 12):
            primes = {line[2] for line in formula.lines() if line[0] == "count"}
            self.assertEqual(circuit_of(formula).primes, sorted(primes))
        formula = Formula("ab", [("is", "a"), ("count", 0, 97, 5), ("count", 0, 2, 1), ("count", 1, 97, 3)])
        self.assertEqual(circuit_of(formula).primes, [2, 97])
        self.assertEqual(circuit_of(Formula("ab", [("is", "a"), ("before", 0), ("since", 0, 1)])).primes, [])

    def test_great_counts(self):
        formula = Formula("ab", [("is", "a"), ("count", 0, 97, 96)], first=True)
        circuit = circuit_of(formula)
        for many in (0, 1, 95, 96, 97, 98, 193, 194):
            self.assertEqual(circuit.after("ba" * many), 1 if many % 97 == 96 or many == 0 else 0)

    def test_no_bound_up_to_1200_lines_and_refs(self):
        a, b = ("is", "a"), ("is", "b")
        for lines in [
            [a] * 1200,
            [a] + [("not", at) for at in range(599)],
            [a] + [("before", at) for at in range(599)],
            [a, b] + [("since", at, at + 1) for at in range(399)],
            [a] + [("count", at, 2, 0) for at in range(599)],
            [a] + [("count", at, (2, 3, 5, 97)[at % 4], 1) for at in range(599)],
            [a] * 599 + [("and", tuple(range(599)))],
            [a] * 599 + [("or", tuple(range(599)))],
            [a] * 20 + [("or", tuple(range(20)))] * 55 + [("and", tuple(range(20)))],
            [a] + [("and", ())] * 600 + [("or", ())] * 599,
            [a, b] + [("or", (0, 1)), ("and", (0, 2)), ("or", (1, 3)), ("and", (0,))] * 90,
        ]:
            refs = sum(len(line[1]) if line[0] in ("and", "or") else {"is": 0, "since": 2}.get(line[0], 1) for line in lines)
            self.assertLessEqual(len(lines) + refs, 1200)
            formula = Formula("ab", lines)
            circuit = circuit_of(formula)
            for word in ("", "a", "b", "ab", "aab", "abab"):
                self.assertEqual(circuit.after(word), 1 if word in formula else 0)

    def test_beyond(self):
        for lines in ([("is", "a")] * 4000, [("is", "a")] * 100 + [("or", tuple(range(100)))] * 3900):
            formula = Formula("ab", lines)
            try:
                circuit = circuit_of(formula)
            except TooMany as wrong:
                self.assertEqual((wrong.subject, wrong.most), ("lines", 4000))
            else:
                self.assertEqual([circuit.after(word) for word in ("", "a", "ab")], [0, 1, 0])

    def test_by_name(self):
        formula = Formula("ab", [("is", "a")])
        self.assertEqual(circuit_of(formula=formula), circuit_of(formula))


class JudgeOfFormulaTest(Case):
    def test_ordinary(self):
        odd = Formula("ab", [("is", "a"), ("count", 0, 2, 1)])
        self.assertEqual(judge_of_formula(odd), Judge("ab", [(1, 0), (0, 1)], [1]))
        last = Formula("ab", [("is", "a")], first=True)
        self.assertEqual(judge_of_formula(formula=last), Judge("ab", [(0, 1), (0, 1)], [0]))

    def test_words(self):
        for alphabet in ("a", "ab", "abc"):
            for formula in some_formulas(28, 50, alphabet, 7):
                try:
                    judge = judge_of_formula(formula)
                except TooMany as wrong:
                    self.assertEqual((wrong.subject, wrong.most), ("sides", 400))
                    continue
                self.assertEqual(judge, judge.least())
                for word in all_words(alphabet, 4):
                    self.assertIs(word in judge, word in formula)

    def test_no_bound_for_six_lines_of_the_past(self):
        chance = random.Random(29)
        for _ in range(60):
            # Six lines of the past among lines of the moment, also of ones over them.
            kinds = [chance.choice(["before", "since"]) for _ in range(6)] + ["and", "or", "not", "is"] * 2
            chance.shuffle(kinds)
            lines = [("is", "ab"), ("is", "ac"), ("is", "ad")]
            for kind in kinds + ["or"]:
                refs = sorted(chance.sample(range(len(lines)), 2))
                if kind in ("and", "or"):
                    lines.append((kind, tuple(refs)))
                elif kind == "is":
                    lines.append((kind, "".join(letter for letter in "abcd" if chance.random() < 0.5)))
                else:
                    lines.append((kind, *(refs if kind == "since" else refs[:1])))
            formula = Formula("abcd", lines, first=chance.random() < 0.5)
            judge = judge_of_formula(formula)
            for word in all_words("abcd", 3):
                self.assertIs(word in judge, word in formula)

    def test_six_letters_back(self):
        formula = Formula("ab", [("is", "a")] + [("before", at) for at in range(6)])
        judge = judge_of_formula(formula)
        self.assertEqual(len(judge), 128)
        self.assertIn("abbbbbb", judge)
        self.assertNotIn("abbbbbbb", judge)

    def test_too_many(self):
        wide = Formula("ab", [("is", "a"), ("count", 0, 97, 1), ("is", "b"), ("count", 2, 97, 1), ("and", (1, 3))])
        self.check_too_many("sides", 400, judge_of_formula, wide)
        long = Formula("ab", [("is", "a")] * 100 + [("or", tuple(range(100)))] * 3900)
        with self.assertRaises(TooMany):
            judge_of_formula(long)


class FormulaOfTest(Case):
    def check_words(self, circuit, accepted, length):
        formula = formula_of(circuit, accepted)
        self.assertIs(formula.__class__, Formula)
        self.assertEqual(formula.alphabet, circuit.alphabet)
        for word in all_words(circuit.alphabet, length):
            self.assertIs(word in formula, circuit.after(word) in accepted, (circuit.text, accepted, word))
        for line in formula.lines():
            if line[0] == "count":
                self.assertIn(line[2], circuit.primes)

    def test_words(self):
        chance = random.Random(30)
        for alphabet, length in (("a", 9), ("ab", 5), ("abcd", 3)):
            for circuit in some_circuits(31, 60, alphabet, 9):
                plain = Circuit(alphabet, circuit.lines()[:-1] + [("const", 0), ("wire", len(circuit) - 1, (7,))])
                self.check_words(plain, chance.choice([[], [7], [0, 7]]), 2)
                # The last line of these circuits is a great counter: what stands ahead of it is asked, where it may be.
                for at in range(len(circuit) - 1):
                    if not circuit.looks(at) and chance.random() < 0.5:
                        part = Circuit(alphabet, circuit.lines()[: at + 1])
                        self.check_words(part, [worth for worth in range(7) if chance.random() < 0.5], length)

    def test_changes(self):
        circuit = Circuit("ab", CHANGES)
        for accepted in ([10], [20], [30], [10, 30], [], [5], (20, 10), [10, 10, 999], [10, 20, 30]):
            self.check_words(circuit, accepted, 6)

    def test_cells_at_first(self):
        for start in range(3):
            for table in [(0, 0), (1, 1), (0, 1), (3, 0), (1, 2), (2, 3)]:
                for cell in (("latch", 3, start, 1), ("counter", 3, start, 1)):
                    circuit = Circuit("ab", [("letter",), ("wire", 0, table), cell])
                    for worth in range(3):
                        self.check_words(circuit, [worth], 4)
                    chained = Circuit("ab", [*circuit.lines(), ("join", 0, 2, ((0, 1, 2), (2, 2, 0))), ("counter", 2, 1, 3), ("latch", 4, 3, 3)])
                    self.check_words(chained, [1, 3], 4)

    def test_great_values(self):
        lines = [("const", 999), ("letter",), ("wire", 1, (0, 998)), ("join", 2, 1, tuple((0, 999) for _ in range(999)))]
        circuit = Circuit("ab", [*lines, ("counter", 5, 0, 3), ("wire", 4, (999, 0, 500, 3, 2))])
        self.check_words(circuit, [999], 5)
        self.check_words(circuit, [2, 3], 5)

    def test_no_bound_up_to_the_weight_400(self):
        letter, flip = ("letter",), ("wire", 0, (1, 2))
        shapes = [
            [letter, ("counter", 7, 0, 0)],
            [("const", 49), ("counter", 7, 3, 0)],
            [letter, ("latch", 40, 0, 0), ("wire", 0, tuple(range(1, 40))[:2]), ("counter", 7, 0, 2)],
            [letter] + [("counter", 2, 0, 0)] * 38,
            [letter, flip] + [("latch", 2, 0, 1)] * 79,
            [letter, flip] + [("wire", 0, (1, 2))] * 190 + [("latch", 2, 1, 191)],
            [letter] + [("counter", 3, 0, 0)] * 13,
            [letter] + [("counter", 5, 1, 0)] * 3,
            [letter] + [("join", 0, 0, ((0, 1), (1, 0)))] * 98 + [("latch", 2, 0, 98)],
            [letter, ("latch", 19, 0, 0), ("join", 1, 1, tuple(tuple((x * y) % 19 for y in range(19)) for x in range(19)))],
            [("const", 0)] * 400,
            [letter, ("counter", 5, 0, 0), ("counter", 5, 0, 1), ("counter", 5, 0, 2)],
            [letter, ("counter", 3, 0, 0), ("latch", 3, 0, 1)] + [("counter", 3, 0, 2), ("counter", 2, 0, 1)] * 7,
        ]
        for lines in shapes:
            circuit = Circuit("ab", lines)
            self.assertLessEqual(weight(circuit), 400, lines)
            self.check_words(circuit, [0, 2], 3)

    def test_no_bound_for_many_circuits(self):
        chance = random.Random(32)
        count = 0
        for alphabet in ("a", "abcd"):
            for circuit in some_circuits(33, 80, alphabet, 60):
                for at in range(len(circuit) - 1, 0, -1):
                    part = circuit.lines()[:at]
                    if not circuit.looks(at - 1) and weight(Circuit(alphabet, part)) <= 400:
                        self.assertLessEqual(len(formula_of(Circuit(alphabet, part), [chance.randrange(4)])), 4000)
                        count += 1
                        break
        self.assertGreater(count, 100)

    def test_beyond(self):
        lines = [("letter",), ("wire", 0, (1, 2, 3, 4)), ("counter", 97, 0, 1), ("counter", 97, 0, 2), ("counter", 97, 0, 3)]
        self.check_too_many("lines", 4000, formula_of, Circuit("abcd", lines), [0])
        self.check_words(Circuit("abcd", lines[:2] + [("counter", 13, 0, 1)]), [0, 5], 3)
        table = tuple(tuple((x * y) % 1000 for y in range(999)) for x in range(999))
        wide = [("const", 998), ("latch", 999, 0, 0), ("join", 1, 1, table)]
        self.check_words(Circuit("ab", wide), [4, 998 * 998 % 1000], 2)

    def test_by_name(self):
        circuit = Circuit("ab", CHANGES)
        self.assertEqual(formula_of(accepted=[10], circuit=circuit), formula_of(circuit, [10]))


class BackTest(unittest.TestCase):
    def test_from_circuits(self):
        for alphabet in ("a", "ab", "abc"):
            for circuit in small_circuits(34, 60, alphabet, 6, 60):
                for at in range(1, len(circuit)):
                    if circuit.looks(at) or weight(Circuit(alphabet, circuit.lines()[: at + 1])) > 400:
                        continue
                    part = Circuit(alphabet, circuit.lines()[: at + 1])
                    formula = formula_of(part, [1, 2])
                    again = circuit_of(formula)
                    for word in all_words(alphabet, 3):
                        self.assertEqual(again.after(word), int(part.after(word) in (1, 2)))
                    try:
                        judge = judge_of_formula(formula)
                    except TooMany:
                        continue
                    self.assertEqual(judge, judge_of(part, [1, 2]))

    def test_changes(self):
        circuit = Circuit("ab", CHANGES)
        for accepted in ([10], [20, 30], [30]):
            self.assertEqual(judge_of_formula(formula_of(circuit, accepted)), judge_of(circuit, accepted))

    def test_counters_of_many_steps(self):
        chance = random.Random(37)
        for prime in (2, 3, 5, 7, 11, 13):
            for table in [(0, 1, 2, 3), (1, 2, 3, 4), (3, 3, 0, 5), (7, 14, 15, 6), *[tuple(chance.sample(range(30), 4)) for _ in range(6)]]:
                circuit = Circuit("abcd", [("letter",), ("wire", 0, table), ("counter", prime, chance.randrange(prime), 1)])
                accepted = chance.sample(range(prime), prime // 2)
                formula = formula_of(circuit, accepted)
                for word in all_words("abcd", 3):
                    self.assertIs(word in formula, circuit.after(word) in accepted)
                if table == (0, 1, 2, 3):
                    self.assertEqual(judge_of_formula(formula), judge_of(circuit, accepted))

    def test_from_formulas(self):
        chance = random.Random(35)
        for _ in range(60):
            formula = some_formula(chance, "ab", chance.randint(1, 6), primes=(2, 3))
            again = formula_of(circuit_of(formula), [1])
            for word in all_words("ab", 4):
                self.assertIs(word in again, word in formula)

    def test_equal_calls(self):
        formula = some_formula(random.Random(36), "ab", 9)
        self.assertEqual(circuit_of(formula), circuit_of(formula))
        circuit = Circuit("ab", CHANGES)
        self.assertEqual(formula_of(circuit, [10]), formula_of(circuit, [10]))


if __name__ == "__main__":
    unittest.main()
