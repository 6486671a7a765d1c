"""Why a machine cannot be built: rings against the primes, and knots."""

from onlyahead.answers import Knot, Ring
from onlyahead.moves import exchange, exchange_products, move_of, one_then, sources_of, still
from onlyahead.primes import is_prime
from onlyahead.state_sets import sets_of
from onlyahead.turns import passed_by, turns

# The turns of fewer states always come apart.
FEWEST_KNOTTED = 5


def ring_against(machine, primes):
    """A ring of a machine against some primes, or None."""
    for states in sets_of(machine.reachable()):
        if is_prime(len(states)) and len(states) not in primes:
            for ends, word in turns(machine, states):
                passed = passed_by(states, ends)
                if len(passed) == len(states):
                    return Ring(machine, word, tuple(passed))
    return None


def knot_of(machine):
    """A knot of a machine, or None."""
    for states in sets_of(machine.reachable()):
        if len(states) >= FEWEST_KNOTTED:
            words = {move_of(states, ends): word for ends, word in turns(machine, states)}
            knotted = knotted_moves(list(words), len(states))
            if len(knotted) > 1:
                sources = sources_of(knotted, len(states))
                products = products_by_exchanges(knotted, sources, len(states))
                return Knot(machine, states, tuple([words[move] for move in sources]), products)
    return None


def knotted_moves(moves, places):
    """The moves that are left of some when exchanges are taken again and again; only one if the moves are soluble."""
    fewer = exchange_products(moves, places)
    while len(fewer) < len(moves):
        moves = fewer
        fewer = exchange_products(moves, places)
    return moves


def products_by_exchanges(moves, sources, places):
    """For each source the tuple of pairs by which it is a product of exchanges.

    All moves are products of the sources, and each of them is a product of exchanges of moves."""
    spellings = spelled({source: (at,) for at, source in enumerate(sources)}, places)
    exchanges = {}
    for move in moves:
        for at, source in enumerate(sources):
            exchanges.setdefault(exchange(move, source), ((spellings[move], (at,)),))
    found = spelled(exchanges, places)
    return tuple([found[source] for source in sources])


def spelled(spellings, places):
    """For each product of some moves one way to spell it, put together from the spellings of the moves."""
    found = {still(places): ()}
    level = [still(places)]
    while level:
        fresh = []
        for reached in level:
            for move, spelling in spellings.items():
                target = one_then(reached, move)
                if target not in found:
                    found[target] = found[reached] + spelling
                    fresh.append(target)
        level = fresh
    return found
