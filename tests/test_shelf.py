"""Shelves: things by name, steps, building, and first differences that are kept."""

import unittest

from helping import STRANGE, counting, ring
from onlyahead.answers import Built, Knot, Ring
from onlyahead.circuits import Circuit
from onlyahead.errors import AlphabetsDiffer, InvalidName, InvalidPrime, NothingLeft, TooMany, UnknownName, WrongKind
from onlyahead.formulas import Formula
from onlyahead.machines import Judge, Machine
from onlyahead.shelf import Shelf

MACHINE = ring(3)
TWO, THREE, FOUR = counting(2), counting(3), counting(4)
OTHER = counting(2, alphabet="ab")
CIRCUIT = Circuit("a", [("const", 5)])
FORMULA = Formula("a", [("is", "a")])
BAD_NAMES = [*STRANGE, "A", "a b", "a1", "abcdefghi", " a", "a ", "a-b", "=", 0, ["a"], ("a",), [["a"]]]


def filled():
    shelf = Shelf()
    for name, thing in (("turn", MACHINE), ("two", TWO), ("three", THREE), ("wires", CIRCUIT), ("past", FORMULA)):
        shelf[name] = thing
    return shelf


def everything(shelf):
    """All that a shelf tells of itself."""
    things = [(name, shelf.kind(name), shelf[name]) for name in shelf.names()]
    return (things, len(shelf), shelf.history(), shelf.kept(), shelf.computed, repr(shelf))


class Case(unittest.TestCase):
    def check_raises(self, error, shelf, call, *args):
        """That a call raises an error and changes nothing; returns the error."""
        ahead = everything(shelf)
        with self.assertRaises(error) as caught:
            call(*args)
        self.assertIs(caught.exception.__class__, error)
        self.assertEqual(everything(shelf), ahead)
        return caught.exception

    def check_name(self, error, name, shelf, call, *args):
        raised = self.check_raises(error, shelf, call, *args)
        given = raised.given if error is InvalidName else raised.name
        self.assertEqual(given, name)
        self.assertIs(given.__class__, name.__class__)

    def check_full(self, shelf, call, *args):
        raised = self.check_raises(TooMany, shelf, call, *args)
        self.assertEqual((raised.subject, raised.most), ("things", 20))


class SetTest(Case):
    def test_empty(self):
        shelf = Shelf()
        self.assertEqual(everything(shelf), ([], 0, (0, 0), [], 0, "Shelf(0 names)"))
        self.assertEqual((Shelf.MOST, shelf.MOST), (20, 20))

    def test_things(self):
        shelf = filled()
        self.assertEqual(shelf.names(), ["turn", "two", "three", "wires", "past"])
        for name, thing in (("turn", MACHINE), ("two", TWO), ("wires", CIRCUIT), ("past", FORMULA)):
            self.assertIs(shelf[name], thing)
            self.assertIn(name, shelf)
        self.assertEqual((len(shelf), repr(shelf), shelf.history()), (5, "Shelf(5 names)", (5, 0)))

    def test_put(self):
        shelf = Shelf()
        self.assertIsNone(shelf.put("two", TWO))
        shelf.put(thing=THREE, name="three")
        self.assertEqual((shelf.names(), shelf["three"], shelf.history()), (["two", "three"], THREE, (2, 0)))

    def test_set_again(self):
        shelf = filled()
        shelf["two"] = FORMULA
        shelf.put("wires", TWO)
        self.assertEqual(shelf.names(), ["turn", "two", "three", "wires", "past"])
        self.assertEqual((shelf["two"], shelf["wires"], len(shelf), shelf.history()), (FORMULA, TWO, 5, (7, 0)))

    def test_names(self):
        shelf = Shelf()
        for name in ("a", "z", "abcdefgh", "machine", "zzzzzzzz"):
            shelf[name] = TWO
        self.assertEqual(len(shelf), 5)

        def assign(name):
            shelf[name] = TWO

        for name in BAD_NAMES:
            self.check_name(InvalidName, name, shelf, assign, name)
            self.check_name(InvalidName, name, shelf, shelf.put, name, TWO)

    def test_twenty_things(self):
        shelf = Shelf()
        for sign in "abcdefghijklmnopqrst":
            shelf[sign] = TWO
        self.assertEqual(len(shelf), 20)

        def assign(name):
            shelf[name] = THREE

        self.check_full(shelf, assign, "u")
        self.check_full(shelf, shelf.put, "zz", THREE)
        self.check_name(InvalidName, "A", shelf, shelf.put, "A", THREE)
        shelf["t"] = THREE
        shelf["a"] = FORMULA
        self.assertEqual((len(shelf), shelf["t"], shelf["a"]), (20, THREE, FORMULA))
        shelf.rename("b", "u")
        shelf.remove("c")
        shelf["w"] = THREE
        self.assertEqual("".join(shelf.names()), "audefghijklmnopqrstw")
        self.check_full(shelf, assign, "b")

    def test_unknown_names(self):
        shelf = filled()
        for name in [*BAD_NAMES, "one", "tw"]:
            self.check_name(UnknownName, name, shelf, lambda: shelf[name])
            self.check_name(UnknownName, name, shelf, shelf.kind, name)
            self.check_name(UnknownName, name, shelf, shelf.remove, name)
            self.check_name(UnknownName, name, shelf, shelf.rename, name, "two")
            self.assertIs(name in shelf, False)
        self.assertIs({} in shelf, False)
        self.assertIs("two" in shelf, True)

    def test_no_iteration_by_numbers(self):
        with self.assertRaises(TypeError):
            list(filled())


class RemoveTest(Case):
    def test_remove(self):
        shelf = filled()
        self.assertIsNone(shelf.remove("three"))
        shelf.remove(name="turn")
        self.assertEqual((shelf.names(), shelf.history()), (["two", "wires", "past"], (7, 0)))
        self.check_name(UnknownName, "turn", shelf, shelf.remove, "turn")
        shelf["turn"] = MACHINE
        self.assertEqual(shelf.names(), ["two", "wires", "past", "turn"])

    def test_rename(self):
        shelf = filled()
        self.assertIsNone(shelf.rename("two", "zwei"))
        shelf.rename(fresh="turnnnnn", name="turn")
        self.assertEqual(shelf.names(), ["turnnnnn", "zwei", "three", "wires", "past"])
        self.assertEqual((shelf["zwei"], shelf.history(), "two" in shelf), (TWO, (7, 0), False))

    def test_rename_to_wrong_names(self):
        shelf = filled()
        for fresh in [*BAD_NAMES, "two", "three", "past", "turn"]:
            self.check_name(InvalidName, fresh, shelf, shelf.rename, "two", fresh)
        for fresh in ("A", "two", "free"):
            self.check_name(UnknownName, "one", shelf, shelf.rename, "one", fresh)


class KindTest(Case):
    def test_kinds(self):
        shelf = filled()
        told = [shelf.kind(name) for name in shelf.names()]
        self.assertEqual(told, ["machine", "judge", "judge", "circuit", "formula"])
        self.assertEqual(shelf.kind(name="two"), "judge")

    def test_names_of_kinds(self):
        shelf = filled()
        self.assertEqual(shelf.names("machine"), ["turn"])
        self.assertEqual(shelf.names("judge"), ["two", "three"])
        self.assertEqual(shelf.names("circuit"), ["wires"])
        self.assertEqual(shelf.names("formula"), ["past"])
        self.assertEqual(shelf.names("formula", "judge"), ["two", "three", "past"])
        self.assertEqual(shelf.names("judge", "judge", "machine"), ["turn", "two", "three"])
        self.assertEqual(shelf.names("machine", "judge", "circuit", "formula"), shelf.names())
        for kind in ("", "Judge", "judges", "two", " "):
            self.assertEqual(shelf.names(kind), [])
            self.assertEqual(shelf.names(kind, "circuit"), ["wires"])

    def test_the_list_is_new(self):
        shelf = filled()
        shelf.names().clear()
        shelf.kept().append("x")
        self.assertEqual((len(shelf.names()), shelf.kept()), (5, []))


class StepTest(Case):
    def test_undo_and_redo(self):
        shelf = Shelf()
        steps = [
            lambda: shelf.put("b", TWO), lambda: shelf.put("a", MACHINE), lambda: shelf.put("b", THREE),
            lambda: shelf.rename("a", "c"), lambda: shelf.put("d", CIRCUIT), lambda: shelf.remove("b"),
            lambda: shelf.put("b", FORMULA), lambda: shelf.put("b", FORMULA), lambda: shelf.rename("c", "a"),
        ]
        things = [everything(shelf)[:2]]
        for step in steps:
            step()
            things.append(everything(shelf)[:2])
        for many in range(len(steps) - 1, -1, -1):
            self.assertIsNone(shelf.undo())
            self.assertEqual((everything(shelf)[:2], shelf.history()), (things[many], (many, len(steps) - many)))
        self.check_raises(NothingLeft, shelf, shelf.undo)
        for many in range(1, len(steps) + 1):
            self.assertIsNone(shelf.redo())
            self.assertEqual((everything(shelf)[:2], shelf.history()), (things[many], (many, len(steps) - many)))
        self.check_raises(NothingLeft, shelf, shelf.redo)

    def test_another_step_ends_redo(self):
        for step in (
            lambda shelf: shelf.put("x", TWO), lambda shelf: shelf.remove("two"), lambda shelf: shelf.rename("two", "x"),
            lambda shelf: shelf.build("turn", "x", 3), lambda shelf: shelf.__setitem__("two", TWO),
        ):
            shelf = filled()
            shelf.undo()
            shelf.undo()
            step(shelf)
            self.assertEqual(shelf.history(), (4, 0))
            self.check_raises(NothingLeft, shelf, shelf.redo)

    def test_errors_and_questions_keep_redo(self):
        shelf = filled()
        shelf.undo()
        self.check_name(InvalidName, "A", shelf, shelf.put, "A", TWO)
        self.check_name(UnknownName, "x", shelf, shelf.remove, "x")
        self.check_name(InvalidName, "two", shelf, shelf.rename, "turn", "two")
        self.check_raises(InvalidPrime, shelf, shelf.build, "turn", "x", 4)
        self.assertFalse(shelf.build("turn", "x", 2).is_built)
        shelf.difference("two", "three")
        shelf.redo()
        self.assertEqual((shelf.names()[-1], shelf.history()), ("past", (5, 0)))


class BuildTest(Case):
    def test_built(self):
        shelf = filled()
        answer = shelf.build("turn", "ticks", 3)
        self.assertIsInstance(answer, Built)
        self.assertIs(answer.machine, MACHINE)
        self.assertTrue(answer.holds(3))
        self.assertIs(shelf["ticks"], answer.circuit)
        self.assertEqual((shelf.names()[-1], shelf.kind("ticks"), shelf.history()), ("ticks", "circuit", (6, 0)))
        shelf.undo()
        self.assertEqual((shelf.names(), shelf.history()), (filled().names(), (5, 1)))
        shelf.redo()
        self.assertIs(shelf["ticks"], answer.circuit)

    def test_judges_and_names_on_the_shelf(self):
        shelf = filled()
        self.assertIs(shelf.build("two", "wires", 2, 3).machine, TWO)
        self.assertEqual((shelf.names(), shelf["wires"].after("aaa")), (filled().names(), 1))
        shelf.build("three", "three", 3, 3)
        self.assertEqual((shelf.names(), shelf.kind("three")), (filled().names(), "circuit"))
        self.assertEqual(shelf.build(name="two", fresh="x").__class__, Ring)

    def test_not_built(self):
        shelf = filled()
        shelf["knot"] = Machine("ab", [(1, 1), (2, 2), (3, 0), (4, 3), (0, 4)])
        for name, primes, kind in (("turn", (2,), Ring), ("two", (), Ring), ("two", (3, 5), Ring), ("knot", (2, 3, 5, 7), Knot)):
            ahead = everything(shelf)
            answer = shelf.build(name, "x", *primes)
            self.assertIsInstance(answer, kind)
            self.assertTrue(answer.holds(*primes))
            self.assertEqual(everything(shelf), ahead)

    def test_errors_in_order(self):
        shelf = filled()
        shelf["wide"] = ring(7)
        for name in [*BAD_NAMES, "x"]:
            self.check_name(UnknownName, name, shelf, shelf.build, name, "A", 4)
        for name in ("wires", "past"):
            self.check_name(WrongKind, name, shelf, shelf.build, name, "A", 4)
        error = self.check_raises(TooMany, shelf, shelf.build, "wide", "A", 4)
        self.assertEqual((error.subject, error.most), ("states", 6))
        self.assertEqual(self.check_raises(InvalidPrime, shelf, shelf.build, "turn", "A", 3, 4, 6).given, 4)
        for fresh in BAD_NAMES:
            self.check_name(InvalidName, fresh, shelf, shelf.build, "turn", fresh, 3)
            self.check_name(InvalidName, fresh, shelf, shelf.build, "turn", fresh, 2)

    def test_full(self):
        shelf = Shelf()
        for sign in "abcdefghijklmnopqrst":
            shelf[sign] = TWO
        self.check_full(shelf, shelf.build, "a", "u", 2)
        self.check_full(shelf, shelf.build, "a", "u", 3)
        self.assertTrue(shelf.build("a", "t", 2).is_built)
        self.assertEqual((shelf.kind("t"), len(shelf)), ("circuit", 20))


class DifferenceTest(Case):
    def test_computed_once(self):
        shelf = filled()
        self.assertEqual((shelf.difference("two", "three"), shelf.computed), ("aa", 1))
        self.assertEqual((shelf.difference(other="three", one="two"), shelf.computed), ("aa", 1))
        self.assertEqual(shelf.kept(), [("two", "three")])

    def test_the_other_order_is_another_pair(self):
        shelf = filled()
        shelf.difference("two", "three")
        self.assertEqual((shelf.difference("three", "two"), shelf.computed), ("aa", 2))
        self.assertEqual(shelf.kept(), [("three", "two"), ("two", "three")])

    def test_no_difference_is_kept_too(self):
        shelf = filled()
        shelf["twin"] = TWO
        for _ in range(2):
            self.assertIsNone(shelf.difference("two", "twin"))
            self.assertIsNone(shelf.difference("two", "two"))
            self.assertEqual(shelf.computed, 2)
        self.assertEqual(shelf.kept(), [("two", "twin"), ("two", "two")])

    def test_ascending(self):
        shelf = Shelf()
        for name in ("c", "a", "b"):
            shelf[name] = TWO
        for one, other in ("cb", "ab", "ca", "ba", "aa"):
            shelf.difference(one, other)
        self.assertEqual(shelf.kept(), [("a", "a"), ("a", "b"), ("b", "a"), ("c", "a"), ("c", "b")])

    def test_errors_in_order(self):
        shelf = filled()
        shelf["ab"] = OTHER
        for name in [*BAD_NAMES, "x"]:
            self.check_name(UnknownName, name, shelf, shelf.difference, name, "nope")
            self.check_name(UnknownName, name, shelf, shelf.difference, "two", name)
        for name in ("turn", "wires", "past"):
            self.check_name(WrongKind, name, shelf, shelf.difference, name, "nope")
            self.check_name(WrongKind, name, shelf, shelf.difference, "two", name)
        self.check_raises(AlphabetsDiffer, shelf, shelf.difference, "two", "ab")
        self.check_raises(AlphabetsDiffer, shelf, shelf.difference, "ab", "two")

    def asked(self):
        """A shelf with four judges, of which all pairs with "a" ahead and the pair of the last two are kept."""
        shelf = Shelf()
        for name, judge in (("a", TWO), ("b", THREE), ("c", FOUR), ("d", TWO)):
            shelf[name] = judge
        for one, other in ("ab", "ac", "cd", "da"):
            shelf.difference(one, other)
        return shelf

    def check_kept(self, shelf, pairs, computed=4):
        self.assertEqual(shelf.kept(), [tuple(pair) for pair in pairs.split()])
        self.assertEqual(shelf.computed, computed)

    def test_steps_forget(self):
        for step, left in [
            (lambda shelf: shelf.put("a", THREE), "cd"),
            (lambda shelf: shelf.put("a", TWO), "cd"),
            (lambda shelf: shelf.__setitem__("b", shelf["b"]), "ac cd da"),
            (lambda shelf: shelf.remove("d"), "ab ac"),
            (lambda shelf: shelf.rename("c", "e"), "ab da"),
            (lambda shelf: shelf.put("e", TWO), "ab ac cd da"),
            (lambda shelf: shelf.build("a", "b", 2), "ac cd da"),
            (lambda shelf: shelf.build("a", "e", 2), "ab ac cd da"),
            (lambda shelf: shelf.build("a", "b", 3), "ab ac cd da"),
        ]:
            shelf = self.asked()
            step(shelf)
            self.check_kept(shelf, left)

    def test_undo_and_redo_forget(self):
        shelf = self.asked()
        shelf.put("a", TWO)
        self.check_kept(shelf, "cd")
        shelf.difference("a", "b")
        shelf.difference("b", "c")
        self.check_kept(shelf, "ab bc cd", 6)
        shelf.undo()
        self.check_kept(shelf, "bc cd", 6)
        shelf.difference("c", "a")
        self.check_kept(shelf, "bc ca cd", 7)
        shelf.redo()
        self.check_kept(shelf, "bc cd", 7)
        shelf.rename("b", "x")
        self.check_kept(shelf, "cd", 7)
        shelf.difference("x", "c")
        shelf.undo()
        self.check_kept(shelf, "cd", 8)
        shelf.difference("b", "c")
        shelf.redo()
        self.check_kept(shelf, "cd", 9)
        shelf.undo()
        shelf.undo()
        shelf.undo()
        # The last of these steps was the one that set d.
        self.check_kept(shelf, "", 9)

    def test_computed_again(self):
        shelf = self.asked()
        shelf["b"] = FOUR
        self.assertEqual((shelf.difference("a", "b"), shelf.computed), ("aa", 5))
        shelf["b"] = TWO
        self.assertEqual((shelf.difference("a", "b"), shelf.computed), (None, 6))
        shelf.undo()
        self.assertEqual((shelf.difference("a", "b"), shelf.computed), ("aa", 7))

    def test_a_name_that_comes_again(self):
        shelf = self.asked()
        shelf.remove("b")
        shelf["b"] = TWO
        self.assertEqual((shelf.difference("a", "b"), shelf.computed), (None, 5))

    def test_computed_cannot_be_assigned(self):
        with self.assertRaises(AttributeError):
            filled().computed = 3


class TwinTest(Case):
    def test_like_the_shelf(self):
        shelf = filled()
        shelf.difference("two", "three")
        shelf.undo()
        twin = shelf.twin()
        self.assertIs(twin.__class__, Shelf)
        self.assertEqual(twin, shelf)
        self.assertEqual(everything(twin), everything(shelf))
        twin.difference("two", "three")
        self.assertEqual(twin.computed, 1)
        twin.redo()
        self.assertIs(twin["past"], FORMULA)

    def test_independent(self):
        def change(shelf):
            shelf.redo()
            shelf["x"] = TWO
            shelf.remove("turn")
            shelf.rename("two", "y")
            shelf.difference("y", "three")
            shelf.undo()

        for twin_changes in (True, False):
            shelf = filled()
            shelf.difference("two", "three")
            shelf.undo()
            twin = shelf.twin()
            one, other = (twin, shelf) if twin_changes else (shelf, twin)
            ahead = everything(other)
            change(one)
            self.assertEqual(everything(other), ahead)
            self.assertNotEqual(one, other)
        twin = shelf.twin().twin()
        while twin.history()[0]:
            twin.undo()
        self.assertEqual((twin, len(shelf) > 0), (Shelf(), True))


class EqualityTest(Case):
    def test_equal(self):
        self.assertEqual(Shelf(), Shelf())
        one, other = filled(), filled()
        one.difference("two", "three")
        other["x"] = TWO
        other.undo()
        self.assertEqual(one, other)

    def test_not_equal(self):
        for change in (
            lambda shelf: shelf.put("x", TWO), lambda shelf: shelf.remove("two"), lambda shelf: shelf.rename("two", "x"),
            lambda shelf: shelf.put("two", THREE), lambda shelf: shelf.put("two", Machine("a", TWO.rows())),
        ):
            shelf = filled()
            change(shelf)
            self.assertFalse(shelf == filled())
            self.assertTrue(shelf != filled())

    def test_order_counts(self):
        shelf = filled()
        shelf.remove("two")
        shelf["two"] = TWO
        self.assertNotEqual(shelf, filled())

    def test_nothing_else(self):
        for value in [None, [], {}, 0, "", "Shelf(0 names)"]:
            self.assertFalse(Shelf() == value)
        self.assertFalse(filled() == dict((name, filled()[name]) for name in filled().names()))


if __name__ == "__main__":
    unittest.main()
