"""Images and turns of sets of states, their series, and the rings of machines."""

from onlyahead.errors import InvalidSet, TooMany
from onlyahead.moves import exchange_products, move_of
from onlyahead.state_sets import first_words_apart, is_set_of, sets_of

MOST_STATES = 6


def few_reachable(machine):
    """The ascending list of the reachable states, of which there may be only a few."""
    states = machine.reachable()
    if len(states) > MOST_STATES:
        raise TooMany("states", MOST_STATES)
    return states


def ends_of(machine, states, word):
    """The list of the states to which a word leads from the states of a set, in order."""
    if not is_set_of(states, few_reachable(machine)):
        raise InvalidSet(states)
    return [machine.led(state, word) for state in states]


def image(machine, states, word):
    """The set of the states to which a word leads from the states of a set."""
    return tuple(sorted(set(ends_of(machine, states, word))))


def turn(machine, states, word):
    """The turn of a set by a word, or None if the word does not turn it."""
    ends = ends_of(machine, states, word)
    return tuple(ends) if sorted(ends) == list(states) else None


def turns(machine, states):
    """The ascending list of the pairs of a turn of a set and its first word."""
    if not is_set_of(states, few_reachable(machine)):
        raise InvalidSet(states)
    words = first_words_apart(machine.rows(), machine.alphabet, states)
    return sorted([(ends, word) for ends, word in words.items() if sorted(ends) == list(states)])


def series(machine, states):
    """The list of the numbers of turns of a set, of products of their exchanges, and so on."""
    moves = [move_of(states, ends) for ends, _ in turns(machine, states)]
    numbers = [len(moves)]
    while not is_at_end(numbers):
        moves = exchange_products(moves, len(states))
        numbers.append(len(moves))
    return numbers


def is_at_end(numbers):
    """Whether a series that begins with these numbers ends here: with 1, or with two that are equal."""
    return numbers[-1] == 1 or (len(numbers) > 1 and numbers[-1] == numbers[-2])


def ring_sizes(machine):
    """The ascending list of the numbers of states of all rings of a machine, each once."""
    # A word that leads around a ring turns the set of its states.
    sizes = [len(states) for states in sets_of(few_reachable(machine)) if has_ring_of(machine, states)]
    return sorted(set(sizes))


def has_ring_of(machine, states):
    """Whether there is a ring of all states of a set."""
    return any([len(passed_by(states, ends)) == len(states) for ends, _ in turns(machine, states)])


def passed_by(states, ends):
    """The list of the states through which a turn of these states leads from the first one, until it comes again."""
    leads = dict(zip(states, ends))
    passed = [states[0]]
    while leads[passed[-1]] != states[0]:
        passed.append(leads[passed[-1]])
    return passed
