"""Circuits that are put together from counters by primes and latches, level by level."""

from onlyahead.circuit_drafts import Draft
from onlyahead.covers import Cover, Refining
from onlyahead.moves import still
from onlyahead.prime_stages import stages_of
from onlyahead.tilings import all_images, alike_images


def composed(machine, most):
    """The lines of a circuit that stands for a machine, and its levels."""
    states = tuple(machine.reachable())
    images = all_images(machine.rows(), states)
    draft = Draft(len(machine.alphabet), most)
    letter = draft.put(("letter",))
    line = draft.put(("const", 0))
    cover = Cover([states], [tuple([0 for _ in machine.alphabet])], 0)
    levels = []
    for alike in alike_images(machine.rows(), images):
        refining = Refining(machine, images, alike, cover)
        next_line, cells = put_level(draft, line, letter, refining)
        levels.append((line, tuple(cover.sets), tuple(cover.steps), cells))
        line = next_line
        cover = refining.finer()
    levels.append((line, tuple(cover.sets), tuple(cover.steps), ()))
    draft.put_wire(line, [chosen[0] for chosen in cover.sets])
    return draft.drawn(), levels


def put_level(draft, line, letter, refining):
    """Puts the cells of a level, and the line of the next one; returns its index and the tuple of the cells.

    The counters tell a move of the tiles, and the latch tells the tile that it moves to where the tile is now."""
    tiles = refining.many_tiles
    moves = [doing for doings in refining.doings for doing in doings if isinstance(doing, tuple)]
    stages = stages_of(moves, tiles)
    # The values are first all moves that a stage has, then the places of the tiles that come.
    left = stages[0].moves if stages else [still(tiles)]
    change = draft.put_join(line, letter, [[number_of(left, doing) for doing in doings] for doings in refining.doings])
    counters = []
    for stage in stages:
        counts = [stage.count_of(move) for move in stage.moves] + [0 for _ in range(tiles)]
        counter = draft.put(("counter", stage.prime, 0, draft.put_wire(change, counts)))
        counters.append(counter)
        change = draft.put_join(change, counter, change_table(stage, tiles))
    # Of the moves only the one that moves nothing is left: its number 0 keeps the side.
    latch = draft.put(("latch", tiles, refining.tile_at_first, change))
    place = latch
    for stage, counter in reversed(list(zip(stages, counters))):
        place = draft.put_join(place, counter, [[power[tile] for power in stage.powers] for tile in range(tiles)])
    next_line = draft.put_join(line, place, refining.indexes())
    return next_line, (*counters, latch)


def number_of(moves, doing):
    """The value that tells a doing: the index of the move, or behind all of them the place of the tile."""
    return moves.index(doing) if isinstance(doing, tuple) else len(moves) + doing


def change_table(stage, tiles):
    """What is left of each value that tells a doing for each side of the counter of a stage."""
    sides = range(stage.prime)
    table = [[stage.rest.index(stage.rest_of(move, side)) for side in sides] for move in stage.moves]
    for tile in range(tiles):
        # A move that is counted is done behind the rest: so it is undone first.
        table.append([len(stage.rest) + power.index(tile) for power in stage.powers])
    return table
