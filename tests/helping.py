"""What the tests have in common."""

import itertools
import random

from onlyahead.circuits import Circuit
from onlyahead.formulas import Formula
from onlyahead.machines import Judge, Machine

STRANGE = [None, True, False, 3, -1, "", [], (), ["a"], ("a",), [[]], "\n", "\u00e9", "\u0661"]


def all_words(alphabet, length):
    """All words with at most this many letters, by length and then ascending."""
    return ["".join(word) for many in range(length + 1) for word in itertools.product(alphabet, repeat=many)]


def some_judges(seed, many, alphabet, states):
    """Judges of up to this many states, with starts and accepted states anywhere."""
    chance = random.Random(seed)
    found = []
    for _ in range(many):
        size = chance.randint(1, states)
        rows = [tuple(chance.randrange(size) for _ in alphabet) for _ in range(size)]
        accepted = [state for state in range(size) if chance.random() < 0.4]
        found.append(Judge(alphabet, rows, accepted, start=chance.randrange(size)))
    return found


def ring(size, alphabet="a"):
    """A machine in which each letter leads to the next state."""
    return Machine(alphabet, ring_rows(size, alphabet))


def ring_rows(size, alphabet="a"):
    return [tuple((state + 1) % size for _ in alphabet) for state in range(size)]


def counting(size, rest=0, alphabet="a"):
    """A judge of the words whose length is the rest modulo the size."""
    return Judge(alphabet, ring_rows(size, alphabet), [rest])


def some_machines(seed, many, alphabet, states):
    """Machines of up to this many states, with starts anywhere."""
    return [Machine(judge.alphabet, judge.rows(), start=judge.start) for judge in some_judges(seed, many, alphabet, states)]


def some_line(chance, sizes):
    """A line of any kind that can stand behind lines of these sizes, and its size without a letter line's."""
    kind = chance.choice(["const", "wire", "join", "latch", "counter"]) if sizes else "const"
    ref, other = (chance.randrange(len(sizes)), chance.randrange(len(sizes))) if sizes else (0, 0)
    if kind == "const":
        value = chance.randrange(4)
        return ("const", value), value + 1
    if kind == "wire":
        table = tuple(chance.randrange(5) for _ in range(sizes[ref]))
        return ("wire", ref, table), max(table) + 1
    if kind == "join":
        table = tuple(tuple(chance.randrange(4) for _ in range(sizes[other])) for _ in range(sizes[ref]))
        return ("join", ref, other, table), max(max(row) for row in table) + 1
    if kind == "latch":
        sides = max(2, sizes[ref] - 1) + chance.randrange(2)
        return ("latch", sides, chance.randrange(sides), ref), sides
    prime = chance.choice([2, 3, 5])
    return ("counter", prime, chance.randrange(prime), ref), prime


def some_circuits(seed, many, alphabet, length):
    """Circuits of up to this many lines, and one more that is their last one."""
    chance = random.Random(seed)
    found = []
    for _ in range(many):
        lines, sizes = [("letter",)], [len(alphabet)]
        for _ in range(chance.randint(1, length)):
            line, size = some_line(chance, sizes)
            lines.append(line)
            sizes.append(size)
        # A cell may stand last, whatever it refers to.
        lines.append(("counter", 97, chance.randrange(97), len(lines) - 1))
        found.append(Circuit(alphabet, lines))
    return found


def some_formula(chance, alphabet, length, primes=(2, 3, 5)):
    """A formula of this many lines of any kind."""
    lines = []
    for at in range(length):
        kind = chance.choice(["is", "not", "and", "or", "before", "since", "count"]) if at else "is"
        if kind == "is":
            lines.append((kind, "".join(letter for letter in alphabet if chance.random() < 0.5)))
        elif kind in ("and", "or"):
            lines.append((kind, tuple(sorted({chance.randrange(at) for _ in range(chance.randrange(4))}))))
        elif kind == "since":
            lines.append((kind, chance.randrange(at), chance.randrange(at)))
        elif kind == "count":
            prime = chance.choice(primes)
            lines.append((kind, chance.randrange(at), prime, chance.randrange(prime)))
        else:
            lines.append((kind, chance.randrange(at)))
    return Formula(alphabet, lines, first=chance.random() < 0.5)


def some_formulas(seed, many, alphabet, length):
    """Formulas of up to this many lines."""
    chance = random.Random(seed)
    return [some_formula(chance, alphabet, chance.randint(1, length)) for _ in range(many)]


def ticking(primes, late=False):
    """A circuit over "a" that has as many lists of sides, one behind the other, as the product of these primes.

    One more if late: then it comes back to the second one instead of the first."""
    lines = [("const", 1)]
    carry = 0
    for prime in primes:
        lines.append(("counter", prime, 0, carry))
        table = tuple(tuple(int(ahead == 1 and side == prime - 1) for side in range(prime)) for ahead in range(2))
        lines.append(("join", carry, len(lines) - 1, table))
        carry = len(lines) - 1
    if late:
        lines += [("const", 2), ("latch", 2, 0, len(lines))]
    return Circuit("a", lines + [("wire", 0, (0, 1)), ("wire", 1, tuple(range(primes[0])))])


def weight(circuit):
    """The weight of a circuit, by which formulas for it are bounded."""
    sizes, total = circuit.sizes(), 0
    for line, size in zip(circuit.lines(), sizes):
        kind, *parts = line
        total += {
            "const": lambda: 1,
            "letter": lambda: size,
            "wire": lambda: sizes[parts[0]],
            "join": lambda: sizes[parts[0]] * sizes[parts[1]],
            "latch": lambda: size + sizes[parts[2]],
            "counter": lambda: size ** 3 + sizes[parts[2]],
        }[kind]()
    return total
