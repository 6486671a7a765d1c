"""Circuits that tell whether a formula accepts the word that they have read."""

from onlyahead.circuit_drafts import Draft

# What is true has the value 1, what is not true the value 0. A latch gets the side behind a value that is one less.
TO_LATCH = (1, 2)


def told_by_cells(alphabet, lines, first, most):
    """The lines of a circuit whose value is 1 after the words that the formula with these lines accepts, and else 0."""
    draft = Draft(len(alphabet), most)
    letter = draft.put(("letter",))
    truths = []
    counters = {}
    for line in lines:
        kind = line[0]
        if kind == "is":
            truths.append(draft.put_wire(letter, [1 if sign in line[1] else 0 for sign in alphabet]))
        elif kind == "not":
            truths.append(draft.put_wire(truths[line[1]], (1, 0)))
        elif kind == "and":
            truths.append(put_chain(draft, [truths[ref] for ref in line[1]], 1, ((0, 0), (0, 1))))
        elif kind == "or":
            truths.append(put_chain(draft, [truths[ref] for ref in line[1]], 0, ((0, 1), (1, 1))))
        elif kind == "before":
            truths.append(put_kept(draft, truths[line[1]], 0))
        elif kind == "since":
            truths.append(put_since(draft, truths[line[1]], truths[line[2]]))
        else:
            truths.append(put_count(draft, counters, truths[line[1]], line))
    put_kept(draft, truths[-1], 1 if first else 0)
    return draft.drawn()


def put_chain(draft, refs, worth, table):
    """Puts what some truths have in common by this table for two; without any it has this worth."""
    if not refs:
        return draft.put(("const", worth))
    reached = refs[0]
    for ref in refs[1:]:
        reached = draft.put_join(reached, ref, table)
    return reached


def put_kept(draft, ref, start):
    """Puts a latch with the truth that the line had at the last letter, and with this start ahead of all letters."""
    return draft.put(("latch", 2, start, draft.put_wire(ref, TO_LATCH)))


def put_since(draft, held, begun):
    """Puts the truth of a since line over two truths."""
    # 0 leaves things as they were at the last letter, 1 ends them, and 2 begins them.
    change = draft.put_join(held, begun, ((1, 2), (0, 2)))
    kept = draft.put(("latch", 2, 0, change))
    return draft.put_join(change, kept, ((0, 1), (0, 0), (1, 1)))


def put_count(draft, counters, ref, line):
    """Puts the truth of a count line over a truth; the counters hold those that are there by what they count."""
    _, _, prime, rest = line
    key = (ref, prime)
    if key not in counters:
        counters[key] = draft.put(("counter", prime, 0, ref))
    # The counter tells how often it was true ahead of this letter.
    table = [[1 if (side + truth) % prime == rest else 0 for truth in range(2)] for side in range(prime)]
    return draft.put_join(counters[key], ref, table)
