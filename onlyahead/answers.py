"""Answers to the question whether a machine can be built, with what is needed to check them."""

from onlyahead.copies import copied
from onlyahead.knot_checks import is_knot, is_ring
from onlyahead.level_checks import are_levels
from onlyahead.primes import is_prime


class Answer:
    """What is told of a machine; the classes below tell more."""

    def __init__(self, machine):
        self.machine = copied(machine)

    @property
    def is_built(self):
        """Whether this is a Built."""
        return False

    def holds(self, *primes):
        """Whether what this answer tells is so for these primes."""
        return False

    def told(self):
        """What this is, in a few words."""
        return "answer"

    def __repr__(self):
        return f"Answer({self.told()})"


class Built(Answer):
    """A circuit that stands for the machine, and the levels by which this can be checked."""

    def __init__(self, machine, circuit, levels):
        super().__init__(machine)
        self.circuit = copied(circuit)
        self.levels = copied(levels)

    @property
    def is_built(self):
        """Whether this is a Built."""
        return True

    def holds(self, *primes):
        """Whether the counters have only these primes, and the levels are right."""
        if not all([prime in primes for prime in self.circuit.primes]):
            return False
        return are_levels(self.machine, self.circuit, self.levels)

    def told(self):
        """What this is, in a few words."""
        return f"built of {len(self.circuit.cells)} cells"

    def __repr__(self):
        return f"Answer({self.told()})"


class Ring(Answer):
    """A word that leads around a ring of states, of which there are a number that the primes do not allow."""

    def __init__(self, machine, word, states):
        super().__init__(machine)
        self.word = copied(word)
        self.states = copied(states)

    @property
    def is_built(self):
        """Whether this is a Built."""
        return False

    def holds(self, *primes):
        """Whether this is a ring of the machine against these primes."""
        if not is_ring(self.machine, self.word, self.states):
            return False
        return is_prime(len(self.states)) and len(self.states) not in primes

    def told(self):
        """What this is, in a few words."""
        return f"ring of {len(self.states)} states"

    def __repr__(self):
        return f"Answer({self.told()})"


class Knot(Answer):
    """Words whose turns of a set are products of exchanges of one another, so that they do not come apart."""

    def __init__(self, machine, states, words, products):
        super().__init__(machine)
        self.states = copied(states)
        self.words = copied(words)
        self.products = copied(products)

    @property
    def is_built(self):
        """Whether this is a Built."""
        return False

    def holds(self, *primes):
        """Whether this is a knot of the machine with right products; the primes do not matter."""
        return is_knot(self.machine, self.states, self.words, self.products)

    def told(self):
        """What this is, in a few words."""
        return f"knot of {len(self.words)} words"

    def __repr__(self):
        return f"Answer({self.told()})"
