"""Covers: lists of sets of states with steps. The image of a set by a letter lies in the set of its step.

A step is a tuple with the index of a set for each letter. A cover becomes finer when the sets in it that are alike are
replaced by their tiles. What a letter does to the tile in a set is told by a tuple if it moves the tiles of one set to
those of another, with the place to which it moves each of them; otherwise by the place of the tile that comes."""

from onlyahead.tilings import image_by, tiles_by_image


class Cover:
    """A cover, with the index of the set in which the machine starts."""

    def __init__(self, sets, steps, at_first):
        self.sets = sets
        self.steps = steps
        self.at_first = at_first


class Refining:
    """How a cover becomes finer."""

    def __init__(self, machine, images, alike, cover):
        self._rows = machine.rows()
        self._cover = cover
        self._tiles = tiles_by_image(self._rows, images, alike)
        self.many_tiles = len(self._tiles[alike[0]])
        # For each set the index that its first tile gets, or the set itself if it stays as it is.
        self._firsts = []
        self._fresh = []
        for states in cover.sets:
            self._firsts.append(len(self._fresh))
            self._fresh.extend(self.parts(states))
        self.doings = [self._doings(at) for at in range(len(cover.sets))]
        inside = [machine.start in part for part in self.parts(cover.sets[cover.at_first])]
        self.tile_at_first = inside.index(True)

    def parts(self, states):
        """The list of the sets that replace a set."""
        return self._tiles.get(states, [states])

    def indexes(self):
        """For each set and each place of a tile the index of what replaces the set."""
        places = range(self.many_tiles)
        table = []
        for states, first in zip(self._cover.sets, self._firsts):
            table.append([first + min(place, len(self.parts(states)) - 1) for place in places])
        return table

    def finer(self):
        """The finer cover."""
        steps = []
        for states, step, doings in zip(self._cover.sets, self._cover.steps, self.doings):
            for tile in range(len(self.parts(states))):
                ends = [tile_behind(doing, tile) for doing in doings]
                steps.append(tuple([self._firsts[target] + end for target, end in zip(step, ends)]))
        at_first = self._firsts[self._cover.at_first] + self.tile_at_first
        return Cover(list(self._fresh), steps, at_first)

    def _doings(self, at):
        """What each letter does to the tile in the set with this index."""
        states = self._cover.sets[at]
        targets = [self._cover.sets[target] for target in self._cover.steps[at]]
        return [self._doing(states, target, letter) for letter, target in enumerate(targets)]

    def _doing(self, states, target, letter):
        """What a letter that leads from one set into a target does to the tile."""
        # Where there are no tiles, none needs to be remembered: so the cells have few sides behind all words.
        if target not in self._tiles:
            return 0
        reached = image_by(self._rows, states, letter)
        if reached == target:
            ends = [image_by(self._rows, tile, letter) for tile in self._tiles[states]]
            return tuple([self._tiles[target].index(end) for end in ends])
        holding = [all([state in tile for state in reached]) for tile in self._tiles[target]]
        return holding.index(True)


def tile_behind(doing, tile):
    """The place of the tile behind what a letter does, if the tile had this place."""
    return doing[tile] if isinstance(doing, tuple) else doing
