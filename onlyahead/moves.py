"""Products of moves. A move is a turn of a set told by places: the place to which it leads from each place."""


def move_of(states, ends):
    """The move that a turn of these states is."""
    return tuple([states.index(end) for end in ends])


def still(places):
    """The move of this many places that moves nothing."""
    return tuple(range(places))


def one_then(one, other):
    """One move and then the other."""
    return tuple([other[place] for place in one])


def undone(move):
    """The move that undoes a move."""
    back = list(move)
    for start, end in enumerate(move):
        back[end] = start
    return tuple(back)


def exchange(one, other):
    """One move, then the other, then what undoes the one, then what undoes the other."""
    return one_then(one_then(one, other), one_then(undone(one), undone(other)))


def products_of(moves, places):
    """The list of all products of some moves of this many places."""
    found = {still(places): True}
    level = [still(places)]
    while level:
        fresh = []
        for reached in level:
            for move in moves:
                target = one_then(reached, move)
                if target not in found:
                    found[target] = True
                    fresh.append(target)
        level = fresh
    return list(found)


def sources_of(moves, places):
    """A few of some moves that have the same products as all of them."""
    chosen = []
    reached = {still(places): True}
    for move in moves:
        if move not in reached:
            chosen.append(move)
            reached = {found: True for found in products_of(chosen, places)}
    return chosen


def exchange_products(moves, places):
    """The list of all products of exchanges of moves, which are all products of some moves."""
    # If each move is a product of the sources, then each exchange of two moves is a product of exchanges
    # of a move and a source, and of their undoings, which are products, too.
    exchanges = [exchange(move, source) for source in sources_of(moves, places) for move in moves]
    return products_of(sources_of(exchanges, places), places)
