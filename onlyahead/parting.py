"""Words by which two judges are told apart."""

from onlyahead.errors import AlphabetsDiffer
from onlyahead.letters import words_to


def first_difference(one, other):
    """The first word that just one of two judges accepts, or None."""
    if one.alphabet != other.alphabet:
        raise AlphabetsDiffer()
    rows, accepts = side_by_side(one, other)
    heads = list(range(len(rows)))
    level = [("", one.start, len(one) + other.start)]
    while level:
        fresh = []
        for word, ours, theirs in level:
            our_head = head_of(heads, ours)
            their_head = head_of(heads, theirs)
            # States under one head are joined by pairs of earlier words. What parts these two parts one of those
            # pairs, too, behind an earlier word: so the first difference does not begin with this word.
            if our_head == their_head:
                continue
            if accepts[ours] != accepts[theirs]:
                return word
            heads[our_head] = their_head
            for letter, our_end, their_end in zip(one.alphabet, rows[ours], rows[theirs]):
                fresh.append((word + letter, our_end, their_end))
        level = fresh
    return None


def side_by_side(one, other):
    """The rows of two judges as those of one, with the states of the other behind, and a truth for each state."""
    behind = len(one)
    rows = one.rows() + [tuple([behind + state for state in row]) for row in other.rows()]
    accepts = [False for _ in rows]
    for state in one.accepted():
        accepts[state] = True
    for state in other.accepted():
        accepts[behind + state] = True
    return rows, accepts


def head_of(heads, state):
    """The state at the end of a chain of heads; the chain is made shorter on the way."""
    while heads[state] != state:
        heads[state] = heads[heads[state]]
        state = heads[state]
    return state


def differences(one, other, length):
    """All words with at most this many letters that just one of two judges accepts, in order."""
    if one.alphabet != other.alphabet:
        raise AlphabetsDiffer()
    for word in words_to(one.alphabet, length):
        if (word in one) != (word in other):
            yield word
