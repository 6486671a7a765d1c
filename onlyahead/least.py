"""The least judge: states that accept the same words from then on are put together.

Judges are given here as their rows and a list of truths, one for each state: whether it is accepted."""

from onlyahead.errors import TooMany
from onlyahead.walks import first_steps


def reached_parts(rows, accepts, start):
    """The reachable part of a judge, with its states in the order of their first words."""
    order = list(first_steps(rows, start))
    numbers = {state: at for at, state in enumerate(order)}
    fresh_rows = [tuple([numbers[target] for target in rows[state]]) for state in order]
    return fresh_rows, [accepts[state] for state in order]


def least_parts(rows, accepts, most):
    """The least judge of one as reached_parts returns it; it may have at most this many states."""
    blocks = blocks_of(rows, accepts, most)
    # The first state of a block is the one with the least first word, so this is the order of the least judge.
    firsts = {}
    for state, block in enumerate(blocks):
        if block not in firsts:
            firsts[block] = state
    numbers = {block: at for at, block in enumerate(firsts)}
    states = list(firsts.values())
    fresh_rows = [tuple([numbers[blocks[target]] for target in rows[state]]) for state in states]
    return fresh_rows, [accepts[state] for state in states]


def blocks_of(rows, accepts, most):
    """For each state the number of its block; each block becomes a state of the least judge.

    Two states are in one block if the same words lead from both to accepted states. A block is split where
    a letter leads only from a part of it into another block. The smaller part gets the new number and is the
    only one that still has to split others: so a state moves seldom, also among a million states."""
    smaller, greater = halves(accepts)
    if not smaller:
        return [0 for _ in rows]
    blocks = [0 for _ in rows]
    for state in smaller:
        blocks[state] = 1
    members = [greater, smaller]
    sizes = [len(greater), len(smaller)]
    sources = [sources_by(rows, letter) for letter in range(len(rows[0]))]
    waiting = [1]
    while waiting:
        splitter = waiting.pop()
        # States that have moved on since they were listed are left out here and below.
        inside = [state for state in members[splitter] if blocks[state] == splitter]
        for ahead in sources:
            parts = parts_by_block(blocks, ahead, inside)
            for block, part in parts.items():
                if len(part) == sizes[block]:
                    continue
                moved = part
                if 2 * len(part) > sizes[block]:
                    moved = without([state for state in members[block] if blocks[state] == block], part)
                    members[block] = part
                for state in moved:
                    blocks[state] = len(sizes)
                waiting.append(len(sizes))
                sizes[block] = sizes[block] - len(moved)
                sizes.append(len(moved))
                members.append(moved)
                # Blocks are never put together again, so there is no need to go on.
                if len(sizes) > most:
                    raise TooMany("states", most)
    return blocks


def halves(accepts):
    """The list of the accepted states and that of the others, the shorter one first."""
    chosen = [state for state, accepted in enumerate(accepts) if accepted]
    others = [state for state, accepted in enumerate(accepts) if not accepted]
    if len(chosen) <= len(others):
        return chosen, others
    return others, chosen


def sources_by(rows, letter):
    """For each state the list of the states from which the letter with this index leads to it."""
    found = [[] for _ in rows]
    for state, row in enumerate(rows):
        found[row[letter]].append(state)
    return found


def parts_by_block(blocks, ahead, targets):
    """For each block the states in it that lead to the targets; ahead has the sources of each state."""
    found = {}
    for target in targets:
        for source in ahead[target]:
            found.setdefault(blocks[source], []).append(source)
    return found


def without(states, part):
    """The states that are not in the part."""
    gone = set(part)
    return [state for state in states if state not in gone]
