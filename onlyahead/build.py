"""Building circuits for machines, and formulas for judges, with counters by some primes only."""

from onlyahead.answers import Built
from onlyahead.barriers import knot_of, ring_against
from onlyahead.circuits import Circuit
from onlyahead.composing import composed
from onlyahead.errors import Barred, InvalidPrime
from onlyahead.primes import is_prime
from onlyahead.translate import formula_of
from onlyahead.turns import few_reachable


def build(machine, *primes):
    """An answer for a machine and some primes: a Built if it can be built by them, otherwise a Ring or a Knot."""
    few_reachable(machine)
    for prime in primes:
        if not is_prime(prime):
            raise InvalidPrime(prime)
    barrier = ring_against(machine, primes)
    if barrier is None:
        barrier = knot_of(machine)
    if barrier is not None:
        return barrier
    lines, levels = composed(machine, Circuit.MOST)
    return Built(machine, Circuit(machine.alphabet, lines), levels)


def formula_for(judge, *primes):
    """A formula that accepts the words that a judge accepts, with count lines by some primes only."""
    least = judge.least()
    answer = build(least, *primes)
    if not answer.is_built:
        raise Barred(answer)
    return formula_of(answer.circuit, least.accepted())
