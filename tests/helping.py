"""What the tests of machines and judges have in common."""

import itertools
import random

from onlyahead.machines import Judge, Machine

STRANGE = [None, True, False, 3, -1, "", [], (), ["a"], ("a",), [[]], "\n", "\u00e9", "\u0661"]


def all_words(alphabet, length):
    """All words with at most this many letters, by length and then ascending."""
    return ["".join(word) for many in range(length + 1) for word in itertools.product(alphabet, repeat=many)]


def some_judges(seed, many, alphabet, states):
    """Judges of up to this many states, with starts and accepted states anywhere."""
    chance = random.Random(seed)
    found = []
    for _ in range(many):
        size = chance.randint(1, states)
        rows = [tuple(chance.randrange(size) for _ in alphabet) for _ in range(size)]
        accepted = [state for state in range(size) if chance.random() < 0.4]
        found.append(Judge(alphabet, rows, accepted, start=chance.randrange(size)))
    return found


def ring(size, alphabet="a"):
    """A machine in which each letter leads to the next state."""
    return Machine(alphabet, ring_rows(size, alphabet))


def ring_rows(size, alphabet="a"):
    return [tuple((state + 1) % size for _ in alphabet) for state in range(size)]


def counting(size, rest=0, alphabet="a"):
    """A judge of the words whose length is the rest modulo the size."""
    return Judge(alphabet, ring_rows(size, alphabet), [rest])
