"""Sets of states: ascending tuples of states, each once, and not empty."""

from onlyahead.kinds import is_number


def is_set_of(value, states):
    """Whether any value is a set of some of these states."""
    if not isinstance(value, tuple) or not value:
        return False
    if not all([is_number(item) and item in states for item in value]):
        return False
    return all([value[at - 1] < value[at] for at in range(1, len(value))])


def sets_of(states):
    """The list of all sets of some of these states, which are given ascending."""
    found = [()]
    for state in states:
        found = found + [(*chosen, state) for chosen in found]
    return found[1:]


def first_words_apart(rows, alphabet, states):
    """For each tuple of different states to which a word leads from these states, in order, the first such word."""
    words = {states: ""}
    level = [states]
    while level:
        fresh = []
        for ends in level:
            for at, letter in enumerate(alphabet):
                target = tuple([rows[end][at] for end in ends])
                # States that have come together are never led apart again.
                if target not in words and len(set(target)) == len(target):
                    words[target] = words[ends] + letter
                    fresh.append(target)
        level = fresh
    return words
