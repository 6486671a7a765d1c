"""Ways between circuits, machines, judges and formulas."""

from onlyahead.circuit_formulas import told_by_past
from onlyahead.circuit_steps import Steps
from onlyahead.circuits import Circuit
from onlyahead.errors import AlphabetsDiffer, TooMany
from onlyahead.formula_circuits import told_by_cells
from onlyahead.formulas import Formula
from onlyahead.machines import Judge, Machine


def machine_of(circuit, *, most=400):
    """The machine whose states are the lists of sides of a circuit after words, and the list of their values."""
    steps = Steps(circuit.lines())
    first = tuple(steps.first_sides())
    numbers = {first: 0}
    level = [first]
    rows = []
    while level:
        fresh = []
        for sides in level:
            row = []
            for letter in range(len(circuit.alphabet)):
                target = tuple(steps.next_sides(sides, letter))
                if target not in numbers:
                    if len(numbers) == most:
                        raise TooMany("sides", most)
                    numbers[target] = len(numbers)
                    fresh.append(target)
                row.append(numbers[target])
            rows.append(tuple(row))
        level = fresh
    return Machine(circuit.alphabet, rows), [steps.last_value(sides) for sides in numbers]


def strays(circuit, machine, *, most=2000):
    """The first word after which the value of a circuit is not the state of a machine, or None."""
    if circuit.alphabet != machine.alphabet:
        raise AlphabetsDiffer()
    steps = Steps(circuit.lines())
    rows = machine.rows()
    first = (tuple(steps.first_sides()), machine.start)
    if steps.last_value(first[0]) != machine.start:
        return ""
    found = {first: True}
    level = [("", first)]
    while level:
        fresh = []
        for word, (sides, state) in level:
            for at, letter in enumerate(circuit.alphabet):
                pair = (tuple(steps.next_sides(sides, at)), rows[state][at])
                if pair in found:
                    continue
                if len(found) == most:
                    raise TooMany("pairs", most)
                if steps.last_value(pair[0]) != pair[1]:
                    return word + letter
                found[pair] = True
                fresh.append((word + letter, pair))
        level = fresh
    return None


def judge_of(circuit, accepted):
    """The least judge of the words after which the value of a circuit is one of the accepted numbers."""
    machine, values = machine_of(circuit)
    states = [state for state, worth in enumerate(values) if worth in accepted]
    return Judge(machine.alphabet, machine.rows(), states).least()


def circuit_of(formula):
    """A circuit whose value after a word is 1 if a formula accepts it, and 0 if not."""
    lines = told_by_cells(formula.alphabet, formula.lines(), formula.first, Circuit.MOST)
    return Circuit(formula.alphabet, lines)


def judge_of_formula(formula):
    """The least judge of the words that a formula accepts."""
    return judge_of(circuit_of(formula), [1])


def formula_of(circuit, accepted):
    """A formula that accepts the words after which the value of a circuit is one of the accepted numbers."""
    lines, first = told_by_past(circuit, accepted, Formula.MOST)
    return Formula(circuit.alphabet, lines, first=first)
