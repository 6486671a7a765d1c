"""Whether any values are a ring or a knot of a machine."""

from onlyahead.kinds import is_below
from onlyahead.letters import is_word
from onlyahead.moves import exchange, move_of, one_then, still
from onlyahead.state_sets import is_set_of


def is_ring(machine, word, states):
    """Whether a word and a tuple of states are a ring of a machine."""
    if not is_word(machine.alphabet, word) or not isinstance(states, tuple) or not states:
        return False
    reachable = machine.reachable()
    if not all([is_set_of((state,), reachable) for state in states]) or len(set(states)) < len(states):
        return False
    return all([machine.led(states[at - 1], word) == states[at] for at in range(len(states))])


def is_knot(machine, states, words, products):
    """Whether a set of states, words and products are a knot of a machine, with right products."""
    if not is_set_of(states, machine.reachable()):
        return False
    if not isinstance(words, tuple) or not all([is_word(machine.alphabet, word) for word in words]):
        return False
    if not isinstance(products, tuple) or len(products) != len(words):
        return False
    ends = [[machine.led(state, word) for state in states] for word in words]
    if not all([sorted(reached) == list(states) for reached in ends]):
        return False
    moves = [move_of(states, reached) for reached in ends]
    if not any([move != still(len(states)) for move in moves]):
        return False
    return all([is_product(moves, move, value) for move, value in zip(moves, products)])


def is_product(moves, move, value):
    """Whether any value is a product of exchanges, told by indexes of some moves, that makes a move."""
    if not isinstance(value, tuple) or not all([is_pair(value_pair, len(moves)) for value_pair in value]):
        return False
    reached = still(len(move))
    for one, other in value:
        reached = one_then(reached, exchange(move_along(moves, one, len(move)), move_along(moves, other, len(move))))
    return reached == move


def is_pair(value, many):
    """Whether any value is a pair of tuples of indexes of this many moves."""
    return isinstance(value, tuple) and len(value) == 2 and all([are_indexes(item, many) for item in value])


def are_indexes(value, many):
    """Whether any value is a tuple of indexes of this many things."""
    return isinstance(value, tuple) and all([is_below(item, many) for item in value])


def move_along(moves, indexes, places):
    """The product of the moves with these indexes, in order."""
    reached = still(places)
    for at in indexes:
        reached = one_then(reached, moves[at])
    return reached
