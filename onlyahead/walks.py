"""Walks over the rows of machines: where words lead, and which states they reach first."""


def led_by(rows, alphabet, state, word):
    """The state to which a word leads from a state."""
    for letter in word:
        state = rows[state][alphabet.index(letter)]
    return state


def first_steps(rows, start):
    """For each reachable state the last step of its first word: the state ahead and the index of the letter.

    The start has no such step, but None. The keys come in the order of the first words."""
    steps = {start: None}
    level = [start]
    while level:
        fresh = []
        for state in level:
            for at, target in enumerate(rows[state]):
                if target not in steps:
                    steps[target] = (state, at)
                    fresh.append(target)
        level = fresh
    return steps


def first_word_to(rows, alphabet, start, state):
    """The first word that leads from the start to a state, or None."""
    steps = first_steps(rows, start)
    if state not in steps:
        return None
    letters = []
    while steps[state] is not None:
        state, at = steps[state]
        letters.append(alphabet[at])
    return "".join(letters[::-1])


def pair_rows(rows, others, start):
    """The pairs that two machines have together after words, and the rows of the machine of these pairs.

    The pairs come in the order of their first words; start is the pair of both starts."""
    numbers = {start: 0}
    found = []
    level = [start]
    while level:
        fresh = []
        for one, two in level:
            row = []
            for target in zip(rows[one], others[two]):
                if target not in numbers:
                    numbers[target] = len(numbers)
                    fresh.append(target)
                row.append(numbers[target])
            found.append(tuple(row))
        level = fresh
    return list(numbers), found
