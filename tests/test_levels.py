"""Whether the levels of a circuit hold: each condition is broken by itself."""

import random
import unittest

from helping import STRANGE, all_words
from onlyahead.answers import Built
from onlyahead.circuits import Circuit
from onlyahead.errors import InvalidLine
from onlyahead.machines import Judge, Machine
from onlyahead.translate import strays

# The letter a exchanges 0 and 1, the letter b leads from 1 to 2, and no letter leads back from 2.
MACHINE = Machine("ab", [(1, 0), (0, 2), (2, 2)])
# The first two cells tell one of the sets (0, 2) and (1, 2), and the last cell tells one of its two states.
LINES = [
    ("letter",),
    ("const", 0),
    ("join", 1, 0, ((1, 2),)),
    ("wire", 2, (0, 1, 0)),
    ("counter", 2, 0, 3),
    ("join", 2, 4, ((0, 0), (0, 0), (1, 2))),
    ("latch", 2, 0, 5),
    ("join", 6, 4, ((0, 1), (1, 0))),
    ("join", 1, 7, ((0, 1),)),
    ("join", 8, 0, ((0, 0), (0, 2))),
    ("latch", 2, 0, 9),
    ("join", 8, 10, ((0, 1), (2, 3))),
    ("wire", 11, (0, 2, 1, 2)),
]
LEVELS = [
    (1, ((0, 1, 2),), ((0, 0),), (4, 6)),
    (8, ((0, 2), (1, 2)), ((1, 0), (0, 0)), (10,)),
    (11, ((0,), (2,), (1,), (2,)), ((2, 0), (3, 1), (0, 1), (1, 1)), ()),
]
PARTS = {"line": 0, "sets": 1, "steps": 2, "cells": 3}


def with_part(level, **parts):
    """The levels with other parts of one of them."""
    changed = list(LEVELS[level])
    for name, value in parts.items():
        changed[PARTS[name]] = value
    return [*LEVELS[:level], tuple(changed), *LEVELS[level + 1:]]


def with_line(*lines, at):
    """The lines with others in the place of one of them."""
    return [*LINES[:at], *lines, *LINES[at + 1:]]


def behind_front(front, lines=LINES, levels=LEVELS):
    """The lines and the levels, moved behind some other lines."""
    many = len(front)
    moved = []
    for kind, *parts in lines:
        for at in {"wire": [0], "join": [0, 1], "latch": [2], "counter": [2]}.get(kind, []):
            parts[at] += many
        moved.append((kind, *parts))
    return [*front, *moved], [(line + many, sets, steps, tuple(cell + many for cell in cells)) for line, sets, steps, cells in levels]


class Case(unittest.TestCase):
    def holds(self, lines=LINES, levels=LEVELS, machine=MACHINE, primes=(2,)):
        return Built(machine, Circuit(machine.alphabet, lines), levels).holds(*primes)

    def check(self, expected, **parts):
        self.assertIs(self.holds(**parts), expected, parts)


class RightTest(Case):
    def test_right(self):
        self.check(True)
        self.check(True, levels=tuple(LEVELS))
        self.check(True, machine=Judge("ab", MACHINE.rows(), [1]))
        self.assertIsNone(strays(Circuit("ab", LINES), MACHINE))

    def test_one_level(self):
        machine = Machine("a", [(1,), (1,)], start=1)
        self.check(True, lines=[("const", 0), ("wire", 0, (1,))], levels=[(0, ((1,),), ((0,),), ())], machine=machine)
        self.check(False, lines=[("const", 0), ("wire", 0, (0,))], levels=[(0, ((1,),), ((0,),), ())], machine=machine)
        self.check(False, lines=[("const", 0), ("wire", 0, (1,))], levels=[(0, ((1,),), ((0,),), ())])

    def test_states_that_are_not_reachable(self):
        machine = Machine("ab", [*MACHINE.rows(), (0, 3)])
        self.check(True, machine=machine)
        self.check(False, machine=machine, levels=with_part(0, sets=((0, 1, 2, 3),)))
        self.check(False, machine=machine, levels=with_part(1, sets=((0, 2, 3), (1, 2))))

    def test_wider_sets(self):
        self.check(True, levels=with_part(1, sets=((0, 1, 2), (0, 1, 2))))
        self.check(True, levels=with_part(1, sets=((0, 2), (1, 2)), steps=((1, 0), (0, 0))))

    def test_lines_that_do_not_matter(self):
        for front in ([("const", 7)], [("letter",), ("wire", 0, (3, 0))], [("const", 0), ("join", 0, 0, ((5,),))]):
            lines, levels = behind_front(front)
            self.check(True, lines=lines, levels=levels)
        self.check(True, lines=[*LINES[:12], ("const", 4), ("join", 0, 2, ((1, 1, 1), (0, 0, 0))), LINES[12]])
        self.check(True, lines=[*LINES[:12], ("join", 4, 3, ((1, 1), (0, 0))), LINES[12]])


class PrimesTest(Case):
    def test_primes(self):
        for primes in ((2,), (2, 2), (3, 2), (2, 3, 5, 7), (97, 2)):
            self.check(True, primes=primes)
        for primes in ((), (3,), (3, 5, 7), (97,)):
            self.check(False, primes=primes)

    def test_no_counters(self):
        lines = [("letter",), ("const", 0), ("wire", 0, (1, 2)), ("latch", 2, 0, 2), ("wire", 3, (0, 1)), ("wire", 4, (0, 1))]
        levels = [(1, ((0, 1),), ((0, 0),), (3,)), (4, ((0,), (1,)), ((0, 1), (0, 1)), ())]
        machine = Machine("ab", [(0, 1), (0, 1)])
        for primes in ((), (2,), (3, 5)):
            self.check(True, lines=lines, levels=levels, machine=machine, primes=primes)
        # A cell cannot be the line of a level, even where its sides are the values that are asked for.
        self.check(False, lines=[*lines[:4], ("wire", 3, (0, 1))], levels=[levels[0], (3, *levels[1][1:])], machine=machine)
        bare = [(1, ((0, 1),), ((0, 0),), ()), (3, *levels[1][1:])]
        self.check(False, lines=[*lines[:4], ("wire", 3, (0, 1))], levels=bare, machine=machine)


class OrderTest(Case):
    def test_no_levels(self):
        self.check(False, levels=[])
        self.check(False, levels=())

    def test_missing_levels(self):
        for levels in (LEVELS[1:], LEVELS[:2], LEVELS[:1], LEVELS[2:], [LEVELS[0], LEVELS[2]], LEVELS[1:2]):
            self.check(False, levels=levels)

    def test_order_of_the_lines(self):
        self.check(False, levels=LEVELS[::-1])
        self.check(False, levels=[LEVELS[0], LEVELS[2], LEVELS[1]])
        self.check(False, levels=[LEVELS[1], LEVELS[0], LEVELS[2]])

    def test_a_line_twice(self):
        for level in range(3):
            twin = with_part(level, cells=())[level]
            self.check(False, levels=[*LEVELS[:level], twin, *LEVELS[level:]])
            self.check(False, levels=[*LEVELS[:level], LEVELS[level], *LEVELS[level:]])

    def test_lines_that_cannot_be_levels(self):
        for level in range(3):
            for line in range(len(LINES)):
                # Line 7 has the same values as line 8 and stands behind the same cells.
                expected = line == LEVELS[level][0] or (level, line) == (1, 7)
                self.check(expected, levels=with_part(level, line=line))
        for value in [*STRANGE, 13, 14, 10 ** 9, (1,), "1"]:
            for level in range(3):
                self.check(False, levels=with_part(level, line=value))

    def test_a_line_that_looks_at_the_letter(self):
        lines = with_line(("join", 8, 0, ((0, 0), (1, 1))), ("join", 8, 10, ((0, 1), (2, 3))), at=11)
        lines[-1] = ("wire", 12, (0, 2, 1, 2))
        # The line 11 has at any letter the values of line 8, but it looks at the letter.
        looking = [LEVELS[0], (8, *LEVELS[1][1:3], (10,)), (11, *LEVELS[1][1:3], ()), (12, *LEVELS[2][1:])]
        self.check(False, lines=lines, levels=looking)
        lines[11] = ("wire", 8, (0, 1))
        lines[12] = ("join", 8, 10, ((0, 1), (2, 3)))
        self.check(True, lines=lines, levels=[*LEVELS[:2], (12, *LEVELS[2][1:])])


    def test_a_line_that_looks_at_the_letter_ahead_of_a_cell(self):
        lines = [("letter",), ("const", 0), ("wire", 0, (0, 1)), ("wire", 2, (1, 2)), ("latch", 2, 0, 3), ("wire", 4, (0, 1)), ("wire", 5, (0, 1))]
        machine = Machine("ab", [(0, 1), (0, 1)])
        first = (1, ((0, 1),), ((0, 0),), ())
        last = (5, ((0,), (1,)), ((0, 1), (0, 1)), ())
        self.check(True, lines=lines, levels=[(1, *first[1:3], (4,)), last], machine=machine)
        for steps in (((0, 1), (0, 1)), ((0, 0), (0, 0)), ((0, 0), (1, 1))):
            self.check(False, lines=lines, levels=[first, (2, ((0, 1), (0, 1)), steps, (4,)), last], machine=machine)


class FirstTest(Case):
    def test_a_line_of_value_0_that_is_no_const(self):
        lines, levels = behind_front([("const", 0)])
        lines[2] = ("wire", 0, (0,))
        self.check(False, lines=lines, levels=levels)
        lines[2] = ("const", 0)
        self.check(True, lines=lines, levels=levels)

    def test_another_const(self):
        lines = list(LINES)
        lines[1] = ("const", 1)
        lines[2] = ("join", 1, 0, ((1, 2), (1, 2)))
        lines[8] = ("join", 1, 7, ((0, 1), (0, 1)))
        two = with_part(0, sets=((0, 1, 2), (0, 1, 2)), steps=((1, 1), (1, 1)))
        self.check(False, lines=lines, levels=two)
        self.check(False, lines=lines)

    def test_its_set(self):
        for sets in [((0, 1),), ((0, 2),), ((0,),), ((0, 1, 2), (0, 1, 2)), (), ((0, 1, 2, 3),), ((0, 2, 1),)]:
            self.check(False, levels=with_part(0, sets=sets))
        # Here the states 1 and 2 are closed, but the start state leads to them.
        machine = Machine("a", [(1,), (2,), (1,)])
        lines = [("const", 0), ("const", 1), ("counter", 2, 0, 1), ("wire", 2, (0, 1)), ("wire", 3, (1, 2))]
        levels = [(0, ((1, 2),), ((0,),), (2,)), (3, ((1,), (2,)), ((1,), (0,)), ())]
        self.check(True, lines=lines, levels=levels, machine=Machine("a", machine.rows(), start=1))
        self.check(False, lines=lines, levels=levels, machine=machine)

    def test_a_level_ahead_of_it(self):
        lines, levels = behind_front([("const", 0)])
        ahead = (0, *LEVELS[0][1:3], ())
        lines[2] = ("wire", 0, (0,))
        self.check(True, lines=lines, levels=[ahead, *levels])
        self.check(False, lines=lines, levels=levels)


class NumberTest(Case):
    def test_sets_and_steps(self):
        for level in range(3):
            _, sets, steps, _ = LEVELS[level]
            self.check(False, levels=with_part(level, sets=(*sets, sets[0])))
            self.check(False, levels=with_part(level, steps=(*steps, steps[0])))
            self.check(False, levels=with_part(level, sets=(*sets, sets[0]), steps=(*steps, steps[0])))
            self.check(False, levels=with_part(level, sets=sets[:-1]))
            self.check(False, levels=with_part(level, steps=steps[:-1]))
            self.check(False, levels=with_part(level, sets=sets[:-1], steps=steps[:-1]))

    def test_the_size_of_the_line(self):
        # A value that never comes makes the line greater.
        lines = with_line(("join", 6, 4, ((0, 1), (1, 0))), at=7)
        lines[5] = ("join", 2, 4, ((0, 0), (0, 0), (1, 2)))
        lines[6] = ("latch", 3, 0, 5)
        lines[7] = ("join", 6, 4, ((0, 1), (1, 0), (2, 2)))
        lines[8] = ("join", 1, 7, ((0, 1, 2),))
        lines[9] = ("join", 8, 0, ((0, 0), (0, 2), (0, 0)))
        lines[11] = ("join", 8, 10, ((0, 1), (2, 3), (0, 0)))
        self.check(False, lines=lines)
        self.check(False, lines=lines, levels=with_part(1, sets=((0, 2), (1, 2), (0, 1, 2)), steps=((1, 0), (0, 0), (2, 0))))

    def test_steps(self):
        for step in [(0,), (0, 0, 0), (), (0, 1), (1, 0), (0, -1), (0, None), [0, 0], (False, 0), (0, "0"), "00", None, 0]:
            self.check(False, levels=with_part(0, steps=(step,)))
        for step in [(2, 0), (1, 2), (True, 0), (1, False), [1, 0], (1,), (1, 0, 0)]:
            self.check(False, levels=with_part(1, steps=(step, (0, 0))))


class ImageTest(Case):
    def test_images_outside_of_the_step(self):
        # The values of the lines step as before, but the image of (0, 2) by a is (1, 2), that of (0, 1, 2) is all.
        for sets in [((0, 2), (1,)), ((0, 1, 2), (1, 2)), ((0, 2), (0, 1)), ((0, 1), (1, 2)), ((0,), (1,)), ((0,), (1, 2))]:
            self.check(False, levels=with_part(1, sets=sets))

    def test_images_of_the_last_level(self):
        for sets in [((0,), (2,), (1,), (1,)), ((0,), (2,), (0,), (2,)), ((2,), (2,), (1,), (2,)), ((0,), (1,), (1,), (2,))]:
            lines = with_line(("wire", 11, tuple(state for state, in sets)), at=12)
            self.check(False, levels=with_part(2, sets=sets), lines=lines)


class CellsTest(Case):
    def test_other_cells(self):
        for cells in [(), (4,), (6,), (6, 4), (4, 6, 10), (4, 5, 6), (4, 4, 6), (4, 6, 6), (4, 7), (10,), (3, 4, 6), (4, 6, 13)]:
            self.check(False, levels=with_part(0, cells=cells))
        for cells in [(), (4,), (9,), (10, 10), (6, 10), (11,), (4, 6)]:
            self.check(False, levels=with_part(1, cells=cells))
        for cells in [(10,), (4, 6), (12,), (0,)]:
            self.check(False, levels=with_part(2, cells=cells))

    def test_kinds(self):
        for value in [*STRANGE, [4, 6], "46", 4, (4, None), (4, "6"), ((4, 6),), (4, [6]), {4: 6}]:
            self.check(False, levels=with_part(0, cells=value))
        for value in [*STRANGE, [10], "10", 10, [], (None,), (False,)]:
            if value != ():
                self.check(False, levels=with_part(2, cells=value))

    def test_true_is_no_cell(self):
        lines = [("const", 0), ("latch", 2, 0, 0), ("wire", 0, (0,)), ("wire", 2, (0,))]
        machine = Machine("a", [(0,)])
        last = (2, ((0,),), ((0,),), ())
        self.check(True, lines=lines, machine=machine, levels=[(0, ((0,),), ((0,),), (1,)), last])
        self.check(False, lines=lines, machine=machine, levels=[(0, ((0,),), ((0,),), (True,)), last])
        self.check(False, lines=lines, machine=machine, levels=[(False, ((0,),), ((0,),), (1,)), last])
        self.check(False, lines=lines, machine=machine, levels=[(0, ((False,),), ((0,),), (1,)), last])
        self.check(False, lines=lines, machine=machine, levels=[(0, ((0,),), ((False,),), (1,)), last])

    def test_cells_ahead_of_the_first_line(self):
        for front in ([("const", 1), ("latch", 2, 0, 0)], [("const", 0), ("counter", 2, 0, 0)]):
            lines, levels = behind_front(front)
            self.check(False, lines=lines, levels=levels)

    def test_cells_behind_the_last_line(self):
        for cell in (("latch", 2, 0, 1), ("counter", 2, 0, 1)):
            self.check(False, lines=[*LINES[:12], cell, LINES[12]])
            self.check(False, lines=[*LINES[:12], cell, LINES[12]], levels=with_part(2, cells=(12,)))


class RefTest(Case):
    def test_refs_ahead_of_the_level(self):
        # Line 7 has the values of line 8, but stands ahead of it.
        self.check(False, lines=with_line(("join", 7, 0, ((0, 0), (0, 2))), at=9))
        self.check(False, lines=with_line(("join", 7, 10, ((0, 1), (2, 3))), at=11))
        self.check(False, lines=with_line(("join", 10, 7, ((0, 2), (1, 3))), at=11))

    def test_a_line_of_the_letter(self):
        lines, levels = behind_front([("letter",), ("wire", 0, (1, 0))])
        letter, front = 0, 1
        self.check(True, lines=lines, levels=levels)
        for wire, right in [(("wire", front, (0, 1)), False), (("wire", letter, (1, 0)), True)]:
            self.check(right, lines=[*lines[:5], wire, *lines[6:]], levels=levels)
        # The ref of a cell counts, too.
        self.check(False, lines=[*lines[:6], ("counter", 2, 0, front), *lines[7:]], levels=levels)

    def test_consts_may_stand_anywhere(self):
        lines, levels = behind_front([("const", 0)])
        for table in (("join", 0, 1, ((1, 2),)), ("join", 2, 1, ((1, 2),))):
            self.check(True, lines=[*lines[:3], table, *lines[4:]], levels=levels)
        self.check(True, lines=[*lines[:9], ("join", 0, 8, ((0, 1),)), *lines[10:]], levels=levels)


class BoundTest(Case):
    def cells(self, alphabet, *sides):
        """Whether the levels hold for cells of these sizes that never change, in a machine of one state."""
        machine = Machine(alphabet, [(0,) * len(alphabet)])
        lines = [("const", 0)] + [("latch", many, 0, 0) for many in sides]
        lines += [("wire", 0, (0,)), ("wire", len(sides) + 1, (0,))]
        steps = ((0,) * len(alphabet),)
        levels = [(0, ((0,),), steps, tuple(range(1, len(sides) + 1))), (len(sides) + 1, ((0,),), steps, ())]
        return self.holds(lines=lines, levels=levels, machine=machine)

    def test_at_and_beyond(self):
        self.assertIs(self.cells("abcd", 500, 100), True)
        self.assertIs(self.cells("abcd", 500, 101), False)
        self.assertIs(self.cells("a", 200, 10, 100), True)
        self.assertIs(self.cells("a", 251, 797), False)
        self.assertIs(self.cells("abc", 163, 409), False)
        self.assertIs(self.cells("abc", 163, 408), True)
        self.assertIs(self.cells("abcd", 999, 999, 999, 999), False)
        self.assertIs(self.cells("a", *[2] * 17), True)
        self.assertIs(self.cells("a", *[2] * 18), False)

    def test_sets_count_too(self):
        machine = Machine("ab", [(0, 0)])
        for many, right in ((100, True), (101, False)):
            lines = [("const", 0), ("wire", 0, (0,)), ("latch", many, 0, 1), ("wire", 2, tuple(range(many)))]
            lines += [("latch", 100, 0, 0), ("latch", 10, 0, 0), ("wire", 3, (0,) * many), ("wire", 6, (0,))]
            steps = tuple((at, at) for at in range(many))
            levels = [
                (0, ((0,),), ((0, 0),), (2,)),
                (3, ((0,),) * many, steps, (4, 5)),
                (6, ((0,),), ((0, 0),), ()),
            ]
            self.check(right, lines=lines, levels=levels, machine=machine)


class ValueTest(Case):
    def test_steps_of_the_values(self):
        # The images lie in the sets of these steps, too, but the values of the lines do not step so.
        self.check(False, levels=with_part(2, steps=((2, 0), (1, 1), (0, 1), (1, 1))))
        self.check(False, levels=with_part(2, steps=((2, 0), (3, 3), (0, 1), (1, 1))))
        self.check(False, levels=with_part(2, steps=((2, 0), (3, 1), (0, 3), (1, 1))))
        wide = with_part(1, sets=((0, 1, 2), (0, 1, 2)), steps=((0, 0), (0, 0)))
        self.check(False, levels=wide)

    def test_bent_tables(self):
        self.check(False, lines=with_line(("join", 8, 0, ((0, 0), (0, 1))), at=9))
        self.check(False, lines=with_line(("join", 8, 0, ((0, 0), (2, 2))), at=9))
        self.check(False, lines=with_line(("join", 8, 10, ((1, 0), (2, 3))), at=11))
        self.check(False, lines=with_line(("join", 6, 4, ((0, 1), (1, 1))), at=7))
        self.check(False, lines=with_line(("join", 2, 4, ((0, 0), (0, 0), (1, 1))), at=5))
        self.check(False, lines=with_line(("wire", 2, (0, 1, 1)), at=3))

    def test_sides_that_never_come(self):
        # The letter a moves the side of the last cell from 2 to 1, but the side is never 2.
        machine = Machine("a", [(1,), (0,)])
        lines = [("const", 0), ("const", 1), ("counter", 2, 0, 1), ("latch", 3, 0, 0), ("join", 2, 3, ((0, 0, 0), (1, 1, 1))), ("wire", 4, (0, 1))]
        levels = [(0, ((0, 1),), ((0,),), (2, 3)), (4, ((0,), (1,)), ((1,), (0,)), ())]
        self.check(True, lines=lines, levels=levels, machine=machine)
        lines[4] = ("join", 2, 3, ((0, 0, 0), (1, 1, 0)))
        self.assertIsNone(strays(Circuit("a", lines), machine))
        self.check(False, lines=lines, levels=levels, machine=machine)

    def test_what_holds_stands_for_the_machine(self):
        chance = random.Random(51)
        found = {True: 0, False: 0}
        for _ in range(1500):
            at = chance.choice([2, 3, 5, 7, 8, 9, 11, 4, 6, 10])
            kind, *parts = LINES[at]
            if kind in ("counter", "latch"):
                parts[1] = chance.randrange(2)
            elif kind == "wire":
                parts[1] = tuple(chance.choice([worth, chance.randrange(2)]) for worth in parts[1])
            else:
                parts[2] = tuple(tuple(chance.choice([worth, worth, chance.randrange(4)]) for worth in row) for row in parts[2])
            try:
                circuit = Circuit("ab", with_line((kind, *parts), at=at))
            except InvalidLine:
                continue
            holds = Built(MACHINE, circuit, LEVELS).holds(2)
            found[holds] += 1
            if holds:
                self.assertIsNone(strays(circuit, MACHINE))
        self.assertGreater(min(found.values()), 50)


class StartTest(Case):
    def test_other_starts(self):
        self.check(False, machine=Machine("ab", MACHINE.rows(), start=1))
        self.check(False, machine=Machine("ab", MACHINE.rows(), start=2))

    def test_other_sides_at_first(self):
        for at, line in ((4, ("counter", 2, 1, 3)), (6, ("latch", 2, 1, 5)), (10, ("latch", 2, 1, 9))):
            self.check(False, lines=with_line(line, at=at))
        both = with_line(("counter", 2, 1, 3), at=4)
        both[6] = ("latch", 2, 1, 5)
        # Both cells together tell the same set as before.
        self.check(True, lines=both)
        both[10] = ("latch", 2, 1, 9)
        self.check(False, lines=both)


class LastTest(Case):
    def test_other_tables(self):
        for table in [(0, 2, 1, 1), (2, 2, 1, 2), (0, 1, 1, 2), (0, 2, 0, 2), (0, 2, 1, 3), (0, 0, 0, 0)]:
            self.check(False, lines=with_line(("wire", 11, table), at=12))

    def test_no_wire(self):
        self.check(False, lines=with_line(("join", 11, 1, ((0,), (2,), (1,), (2,))), at=12))
        self.check(False, lines=[*LINES, ("wire", 12, (0, 1, 2))])
        self.check(False, lines=LINES[:12])
        self.check(False, lines=[*LINES, ("const", 0)])

    def test_another_ref(self):
        lines = [*LINES[:12], ("wire", 11, (0, 1, 2, 3)), ("wire", 12, (0, 2, 1, 2))]
        self.check(False, lines=lines)
        self.check(True, lines=lines, levels=with_part(2, line=12))
        self.check(True, lines=[*lines[:13], ("wire", 11, (0, 2, 1, 2))])

    def test_sets_of_more_states(self):
        for table in ((0, 1), (0, 2), (2, 2)):
            lines = [*LINES[:9], ("wire", 8, table)]
            self.check(False, lines=lines, levels=[LEVELS[0], (8, *LEVELS[1][1:3], ())])
        self.check(False, levels=with_part(2, sets=((0,), (2,), (1,), (1, 2))))
        self.check(False, levels=with_part(2, sets=((0, 2), (2,), (1,), (2,))))


    def test_a_set_of_more_states_that_is_closed(self):
        machine = Machine("ab", [(0, 1), (1, 2), (1, 2)])
        lines = [("letter",), ("const", 0), ("wire", 0, (0, 2)), ("latch", 2, 0, 2), ("wire", 3, (0, 1)), ("wire", 4, (0, 1))]
        first = (1, ((0, 1, 2),), ((0, 0),), (3,))
        self.check(False, lines=lines, levels=[first, (4, ((0,), (1, 2)), ((0, 1), (1, 1)), ())], machine=machine)
        # Where both states are one, all else is right.
        machine = Machine("ab", [(0, 1), (1, 1)])
        first = (1, ((0, 1),), ((0, 0),), (3,))
        self.check(True, lines=lines, levels=[first, (4, ((0,), (1,)), ((0, 1), (1, 1)), ())], machine=machine)


class KindTest(Case):
    def test_lists_in_the_place_of_tuples(self):
        for level in range(3):
            line, sets, steps, cells = LEVELS[level]
            for other in (
                [line, sets, steps, cells],
                (line, list(sets), steps, cells),
                (line, (list(sets[0]), *sets[1:]), steps, cells),
                (line, sets, list(steps), cells),
                (line, sets, (list(steps[0]), *steps[1:]), cells),
                (line, sets, steps, list(cells)),
            ):
                self.check(False, levels=[*LEVELS[:level], other, *LEVELS[level + 1:]])
                self.check(False, levels=(*LEVELS[:level], other, *LEVELS[level + 1:]))

    def test_any_values(self):
        for value in [*STRANGE, {}, 0, (1, 2), "x" * 3000, LEVELS[0][:3], (*LEVELS[0], ()), ((),) * 4, (1,) * 4, [None] * 4]:
            self.check(False, levels=value)
            for level in range(3):
                self.check(False, levels=[*LEVELS[:level], value, *LEVELS[level + 1:]])
                self.check(False, levels=[*LEVELS[:level], value, *LEVELS[level:]])
                for name in ("sets", "steps"):
                    self.check(False, levels=with_part(level, **{name: value}))
                    self.check(False, levels=with_part(level, **{name: (value,) * len(LEVELS[level][1])}))
                    self.check(False, levels=with_part(level, **{name: ((value,),) * len(LEVELS[level][1])}))
        self.check(False, levels={1: 2})

    def test_nothing_is_changed(self):
        levels = [*LEVELS]
        built = Built(MACHINE, Circuit("ab", LINES), levels)
        self.assertEqual([built.holds(2), built.holds(2), built.holds(3)], [True, True, False])
        self.assertEqual((built.levels, built.circuit.lines()), (LEVELS, LINES))
        self.assertEqual([built.circuit.after(word) for word in all_words("ab", 2)], [0, 1, 0, 0, 2, 1, 0])


if __name__ == "__main__":
    unittest.main()
