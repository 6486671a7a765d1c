"""Images, turns, series and rings of machines."""

import itertools
import unittest

from helping import STRANGE, all_words, ring, ring_rows, some_machines
from onlyahead.errors import InvalidSet, InvalidWord, TooMany
from onlyahead.machines import Judge, Machine
from onlyahead.moves import exchange, exchange_products, move_of, one_then, products_of, sources_of, still, undone
from onlyahead.turns import image, ring_sizes, series, turn, turns

# From state 0, a leads to 1 and back, b puts 2 and 3 together.
SMALL = Machine("ab", [(1, 2), (0, 3), (3, 2), (2, 2)])
# Two states that no word leads to stand ahead of the start.
BEHIND = Machine("ab", [(0, 1), (2, 1), (3, 4), (4, 3), (2, 2)], start=2)


def machine_by(*columns, start=0):
    """A machine that is given by where each letter leads from the states."""
    return Machine("abcd"[: len(columns)], list(zip(*columns)), start=start)


def by_all_turns(size):
    """A machine of which words turn all its states in all ways."""
    around = [(state + 1) % size for state in range(size)]
    swapped = [1, 0, *range(2, size)]
    return machine_by(around, swapped)


def by_even_turns(size):
    """A machine of which words turn all its states in all even ways."""
    columns = []
    for last in range(2, size):
        column = list(range(size))
        column[0], column[1], column[last] = 1, last, 0
        columns.append(column)
    return machine_by(*columns)


def reached_sets(machine):
    states = machine.reachable()
    return [chosen for many in range(1, len(states) + 1) for chosen in itertools.combinations(states, many)]


def plain_maps(machine):
    """For each way in which words lead from all states, the first such word."""
    rows, found = machine.rows(), {tuple(range(len(machine))): ""}
    level = list(found)
    while level:
        fresh = []
        for ends in level:
            for at, letter in enumerate(machine.alphabet):
                target = tuple(rows[end][at] for end in ends)
                if target not in found:
                    found[target] = found[ends] + letter
                    fresh.append(target)
        level = fresh
    return found


def plain_turns(machine, states):
    """The turns of a set with their first words, by the ways in which words lead from all states."""
    found = {}
    for ends, word in plain_maps(machine).items():
        turned = tuple(ends[state] for state in states)
        if tuple(sorted(turned)) == states:
            found[turned] = min(found.get(turned, word), word, key=lambda told: (len(told), told))
    return sorted(found.items())


def plain_series(moves):
    """The series of all moves of a set, by all exchanges of all of them and all products of these."""
    numbers = [len(moves)]
    while numbers[-1] > 1 and (len(numbers) == 1 or numbers[-1] < numbers[-2]):
        found = {exchange(one, other) for one in moves for other in moves}
        while True:
            more = {one_then(one, other) for one in found for other in found}
            if more <= found:
                break
            found |= more
        moves = found
        numbers.append(len(moves))
    return numbers


def plain_ring_sizes(machine):
    """The numbers of states of rings, by the ways in which words lead from all states."""
    found = set()
    for ends in plain_maps(machine):
        for start in machine.reachable():
            passed = [start]
            while ends[passed[-1]] not in passed:
                passed.append(ends[passed[-1]])
            found.add(len(passed) - passed.index(ends[passed[-1]]))
    return sorted(found)


class ImageTest(unittest.TestCase):
    def test_ordinary(self):
        self.assertEqual(image(SMALL, (0, 1), ""), (0, 1))
        self.assertEqual(image(SMALL, (0, 1), "a"), (0, 1))
        self.assertEqual(image(SMALL, (0, 2), "a"), (1, 3))
        self.assertEqual(image(SMALL, (0, 1), "b"), (2, 3))
        self.assertEqual(image(SMALL, (0, 1, 2, 3), "bb"), (2,))
        self.assertEqual(image(machine=SMALL, states=(1,), word="aab"), (3,))
        self.assertEqual(image(BEHIND, (2, 3, 4), "b"), (2, 3, 4))
        self.assertIs(image(SMALL, (0, 2), "a").__class__, tuple)

    def test_same_as_by_states(self):
        for machine in some_machines(21, 20, "ab", 5):
            for states in reached_sets(machine):
                for word in all_words("ab", 4):
                    told = tuple(sorted({machine.led(state, word) for state in states}))
                    self.assertEqual(image(machine, states, word), told)

    def test_long_word(self):
        self.assertEqual(image(ring(6), (0, 2), "a" * 4000), (0, 4))


class TurnTest(unittest.TestCase):
    def test_ordinary(self):
        self.assertEqual(turn(SMALL, (0, 1), "a"), (1, 0))
        self.assertEqual(turn(SMALL, (2, 3), "aa"), (2, 3))
        self.assertEqual(turn(SMALL, (0, 1), ""), (0, 1))
        self.assertEqual(turn(SMALL, (2,), "b"), (2,))
        self.assertEqual(turn(machine=BEHIND, states=(2, 3, 4), word="a"), (3, 4, 2))

    def test_none(self):
        for states, word in (((0, 1), "b"), ((0, 2), "a"), ((2, 3), "b"), ((0,), "a"), ((0, 1, 2, 3), "b")):
            self.assertIsNone(turn(SMALL, states, word))

    def test_same_as_by_states(self):
        for machine in some_machines(22, 20, "abc", 4):
            for states in reached_sets(machine):
                for word in all_words("abc", 3):
                    ends = tuple(machine.led(state, word) for state in states)
                    told = ends if tuple(sorted(ends)) == states else None
                    self.assertEqual(turn(machine, states, word), told)


class TurnsTest(unittest.TestCase):
    def test_ordinary(self):
        self.assertEqual(turns(SMALL, (0, 1)), [((0, 1), ""), ((1, 0), "a")])
        self.assertEqual(turns(machine=SMALL, states=(0, 1, 2, 3)), [((0, 1, 2, 3), ""), ((1, 0, 3, 2), "a")])
        self.assertEqual(turns(SMALL, (0, 2)), [((0, 2), "")])
        self.assertEqual(turns(ring(3), (0, 1, 2)), [((0, 1, 2), ""), ((1, 2, 0), "a"), ((2, 0, 1), "aa")])
        self.assertEqual(turns(ring(3, "ab"), (0, 1, 2))[2], ((2, 0, 1), "aa"))
        for pair in turns(SMALL, (0, 1)):
            self.assertIs(pair.__class__, tuple)

    def test_first_words(self):
        # The words ab and c make this turn, too.
        machine = machine_by([0, 1], [1, 0], [1, 0])
        self.assertEqual(turns(machine, (0, 1)), [((0, 1), ""), ((1, 0), "b")])
        # Out of the set and back.
        machine = machine_by([2, 3, 1, 0], [2, 3, 2, 3])
        self.assertEqual(turns(machine, (0, 1)), [((0, 1), ""), ((1, 0), "aa")])

    def test_same_as_by_all_maps(self):
        for alphabet, states in (("a", 6), ("ab", 4), ("abc", 4)):
            for machine in some_machines(23, 25, alphabet, states):
                for chosen in reached_sets(machine):
                    self.assertEqual(turns(machine, chosen), plain_turns(machine, chosen))

    def test_empty_word_turns_each_set(self):
        for machine in some_machines(24, 20, "ab", 6):
            for states in reached_sets(machine):
                self.assertIn((states, ""), turns(machine, states))
                self.assertEqual(turn(machine, states, ""), states)
                self.assertEqual(image(machine, states, ""), states)

    def test_words_make_the_turns(self):
        for machine in [by_all_turns(5), *some_machines(25, 20, "abcd", 6)]:
            for states in reached_sets(machine):
                for found, word in turns(machine, states):
                    self.assertEqual(turn(machine, states, word), found)
                    self.assertEqual(image(machine, states, word), states)

    def test_products_and_undoing_are_turns(self):
        for machine in [by_all_turns(4), by_even_turns(4), *some_machines(26, 25, "ab", 5)]:
            for states in reached_sets(machine):
                pairs = turns(machine, states)
                moves = {move_of(states, found) for found, _ in pairs}
                for one, other in itertools.product(moves, moves):
                    self.assertIn(one_then(one, other), moves)
                    self.assertIn(undone(one), moves)
                for (first, word), (_, behind) in itertools.product(pairs[:6], pairs[:6]):
                    target = turn(machine, states, word + behind)
                    self.assertEqual(target, tuple(machine.led(state, behind) for state in first))

    def test_all_turns(self):
        for size in range(2, 7):
            found = turns(by_all_turns(size), tuple(range(size)))
            self.assertEqual([told for told, _ in found], list(itertools.permutations(range(size))))

    def test_returned_lists_are_new(self):
        turns(SMALL, (0, 1)).clear()
        series(SMALL, (0, 1)).clear()
        ring_sizes(SMALL).clear()
        self.assertEqual(turns(SMALL, (0, 1)), [((0, 1), ""), ((1, 0), "a")])
        self.assertEqual((series(SMALL, (0, 1)), ring_sizes(SMALL)), ([2, 1], [1, 2]))


class SeriesTest(unittest.TestCase):
    def test_all_turns(self):
        told = {2: [2, 1], 3: [6, 3, 1], 4: [24, 12, 4, 1], 5: [120, 60, 60], 6: [720, 360, 360]}
        for size, numbers in told.items():
            self.assertEqual(series(by_all_turns(size), tuple(range(size))), numbers)

    def test_even_turns(self):
        told = {3: [3, 1], 4: [12, 4, 1], 5: [60, 60], 6: [360, 360]}
        for size, numbers in told.items():
            self.assertEqual(series(by_even_turns(size), tuple(range(size))), numbers)

    def test_rings(self):
        self.assertEqual(series(ring(1), (0,)), [1])
        for size in range(2, 7):
            self.assertEqual(series(machine=ring(size), states=tuple(range(size))), [size, 1])
        self.assertEqual(series(ring(6), (0, 2, 4)), [3, 1])
        self.assertEqual(series(ring(6), (0, 1)), [1])

    def test_square(self):
        turned, mirrored = [1, 2, 3, 0], [1, 0, 3, 2]
        self.assertEqual(series(machine_by(turned, mirrored), (0, 1, 2, 3)), [8, 2, 1])
        self.assertEqual(series(machine_by(mirrored, [2, 3, 0, 1]), (0, 1, 2, 3)), [4, 1])
        self.assertEqual(series(machine_by(turned, [0, 2, 1, 3]), (0, 1, 2, 3)), [24, 12, 4, 1])

    def test_set_that_words_leave(self):
        self.assertEqual(series(by_all_turns(5), (0, 1, 2)), [6, 3, 1])
        self.assertEqual(series(by_all_turns(6), (1, 2, 3, 4, 5)), [120, 60, 60])
        self.assertEqual(series(SMALL, (0, 2)), [1])

    def test_same_as_by_all_exchanges(self):
        machines = [by_all_turns(4), by_even_turns(5), *some_machines(27, 30, "abc", 5)]
        for machine in machines:
            for states in reached_sets(machine):
                moves = [move_of(states, found) for found, _ in turns(machine, states)]
                self.assertEqual(series(machine, states), plain_series(moves))


class RingSizesTest(unittest.TestCase):
    def test_ordinary(self):
        self.assertEqual(ring_sizes(SMALL), [1, 2])
        self.assertEqual(ring_sizes(machine=BEHIND), [1, 2, 3])
        self.assertEqual(ring_sizes(ring(1)), [1])
        self.assertEqual(ring_sizes(ring(4)), [1, 2, 4])
        self.assertEqual(ring_sizes(ring(6)), [1, 2, 3, 6])
        self.assertEqual(ring_sizes(Machine("a", [(1,), (2,), (2,)])), [1])

    def test_all_and_even_turns(self):
        self.assertEqual(ring_sizes(by_all_turns(5)), [1, 2, 3, 4, 5])
        self.assertEqual(ring_sizes(by_all_turns(6)), [1, 2, 3, 4, 5, 6])
        self.assertEqual(ring_sizes(by_even_turns(4)), [1, 2, 3])
        self.assertEqual(ring_sizes(by_even_turns(5)), [1, 2, 3, 5])

    def test_rings_that_leave_out_states(self):
        # One letter leads around three states and around two; the others fall into them.
        self.assertEqual(ring_sizes(machine_by([1, 2, 0, 4, 3, 0], [3, 5, 5, 3, 4, 5])), [1, 2, 3])
        # The word ab leads around 0 and 2 by way of 1 and 3; all states together are never turned.
        machine = machine_by([1, 1, 3, 3], [1, 2, 2, 0])
        self.assertEqual(series(machine, (0, 1, 2, 3)), [1])
        self.assertEqual(ring_sizes(machine), [1, 2])

    def test_rings_of_unreachable_states(self):
        self.assertEqual(ring_sizes(machine_by([0, 2, 3, 1])), [1])
        self.assertEqual(ring_sizes(machine_by([0, 2, 3, 1], start=3)), [1, 3])

    def test_same_as_by_all_maps(self):
        for alphabet, states in (("a", 6), ("ab", 5), ("abc", 4)):
            for machine in some_machines(28, 40, alphabet, states):
                self.assertEqual(ring_sizes(machine), plain_ring_sizes(machine))

    def test_judges(self):
        judge = Judge("a", ring_rows(3), [0])
        self.assertEqual(ring_sizes(judge), [1, 3])
        self.assertEqual(turns(judge, (0, 1, 2)), turns(ring(3), (0, 1, 2)))


class WrongTest(unittest.TestCase):
    def calls(self, machine, states, word):
        return [
            lambda: image(machine, states, word),
            lambda: turn(machine, states, word),
            lambda: turns(machine, states),
            lambda: series(machine, states),
        ]

    def check(self, machine, states, word=""):
        for call in self.calls(machine, states, word):
            with self.assertRaises(InvalidSet) as caught:
                call()
            self.assertIs(caught.exception.given, states)

    def test_no_sets(self):
        values = [*STRANGE, [0, 1], [0], (1, 0), (0, 0), (0, 1, 1), (2, 0, 1), (0, 4), (4,), (-1, 0), ("0",), (None,), (0, None)]
        values += [(True,), (False,), (0, True), (False, 1), ((0,),), ([0],), (0, [1]), ((0, 1), (2, 3)), ("", 0), "01", 0, 999999999]
        values += [(0, 1, 2, 3, 4), (0, 999999999)]
        for value in values:
            self.check(SMALL, value)

    def test_unreachable_states(self):
        for value in ((0,), (1, 2), (0, 1), (0, 2, 3, 4), (2, 5)):
            self.check(BEHIND, value)
        self.assertEqual(turn(BEHIND, (2, 3, 4), ""), (2, 3, 4))

    def test_words(self):
        for value in [*[item for item in STRANGE if item != ""], "c", "ac", "A", " "]:
            for call in self.calls(SMALL, (0, 1), value)[:2]:
                with self.assertRaises(InvalidWord) as caught:
                    call()
                self.assertIs(caught.exception.given, value)

    def test_sets_come_before_words(self):
        for states in ([0, 1], (0, 4), (1, 0), ()):
            self.check(SMALL, states, "c")
            self.check(SMALL, states, None)

    def test_seven_reachable_states(self):
        big = ring(7)
        calls = [lambda: ring_sizes(big)]
        for states in ((0,), (0, 1), [0], (7,), (1, 0), None):
            calls += self.calls(big, states, "") + self.calls(big, states, "b")
        for call in calls:
            with self.assertRaises(TooMany) as caught:
                call()
            self.assertEqual((caught.exception.subject, caught.exception.most), ("states", 6))

    def test_only_reachable_states_are_counted(self):
        machine = Machine("a", [*ring_rows(6), *[(6,)] * 994])
        self.assertEqual(turn(machine, (0, 2, 4), "aa"), (2, 4, 0))
        self.assertEqual(len(turns(machine, (0, 1, 2, 3, 4, 5))), 6)
        self.assertEqual(ring_sizes(machine), [1, 2, 3, 6])
        self.check(machine, (0, 6))


class MovesTest(unittest.TestCase):
    def test_exchange(self):
        around, swapped = (1, 2, 0), (1, 0, 2)
        self.assertEqual(one_then(around, swapped), (0, 2, 1))
        self.assertEqual(undone(around), (2, 0, 1))
        self.assertEqual(exchange(around, swapped), (2, 0, 1))
        self.assertEqual(exchange(around, around), still(3))

    def test_products(self):
        self.assertEqual(products_of([], 3), [(0, 1, 2)])
        self.assertEqual(sorted(products_of([(1, 2, 0)], 3)), [(0, 1, 2), (1, 2, 0), (2, 0, 1)])
        self.assertEqual(sources_of([(0, 1, 2), (1, 2, 0), (2, 0, 1)], 3), [(1, 2, 0)])
        self.assertEqual(exchange_products([still(2)], 2), [still(2)])


if __name__ == "__main__":
    unittest.main()
