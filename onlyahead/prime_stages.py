"""Stages by which the products of some moves come apart into counts by primes."""

from onlyahead.moves import exchange_products, one_then, products_of, sources_of, still, undone


class Stage:
    """Moves that are closed under products, and the part of them that is left when one number is counted.

    Each of the moves is one of the rest and then the mover, done as often as the number tells, from 0 up to what is
    less than the prime. Moves of the rest stay in the rest if a move of all is done ahead and undone behind them."""

    def __init__(self, moves, places):
        self.moves = moves
        self.rest = greatest_rest(moves, places)
        self.prime = len(moves) // len(self.rest)
        mover = [move for move in moves if move not in self.rest][0]
        self.powers = [still(places)]
        for _ in range(1, self.prime):
            self.powers.append(one_then(self.powers[-1], mover))

    def count_of(self, move):
        """The number that a move counts."""
        return [at for at, power in enumerate(self.powers) if one_then(move, undone(power)) in self.rest][0]

    def rest_of(self, move, side):
        """What a move does to the rest of the product if the number so far is this side."""
        behind = self.powers[(side + self.count_of(move)) % self.prime]
        return one_then(one_then(self.powers[side], move), undone(behind))


def greatest_rest(moves, places):
    """A greatest part of moves that is closed under products and holds all exchanges."""
    rest = exchange_products(moves, places)
    for move in moves:
        wider = products_of(sources_of([*rest, move], places), places)
        if len(wider) < len(moves):
            rest = wider
    return rest


def stages_of(moves, places):
    """The list of the stages of all products of some moves, until only the move that moves nothing is left."""
    stages = []
    left = products_of(sources_of(moves, places), places)
    while len(left) > 1:
        stages.append(Stage(left, places))
        left = stages[-1].rest
    return stages
