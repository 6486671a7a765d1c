"""Answers: attributes, what is told, and whether rings and knots hold."""

import itertools
import unittest

from helping import STRANGE, ring
from onlyahead.answers import Answer, Built, Knot, Ring
from onlyahead.circuits import Circuit
from onlyahead.errors import AheadError
from onlyahead.machines import Judge, Machine

ONE = Machine("a", [(0,)])
CIRCUIT = Circuit("a", [("const", 0), ("wire", 0, (0,))])
LEVELS = [(0, ((0,),), ((0,),), ())]
# Five states: a leads around all of them, and b around the first three. States 5 and 6 are never reached.
FIVE = Machine("ab", [(1, 1), (2, 2), (3, 0), (4, 3), (0, 4), (6, 5), (5, 6)])
ANY = [*STRANGE, 0, 2, "a", "abc", (0,), [0], ((0,),), ((),), "x" * 5000, (("a",), [()]), -1, {}, b"a"]


def plain_turn(machine, states, word):
    return tuple(machine.led(state, word) for state in states)


def after_turns(states, turns, indexes):
    """Where the turns with these indexes lead from each state, one behind the other."""
    ends = states
    for at in indexes:
        ends = tuple(turns[at][states.index(end)] for end in ends)
    return ends


def backwards(states, ends):
    return tuple(states[ends.index(state)] for state in states)


def plain_exchange(states, x, y):
    return after_turns(states, [x, y, backwards(states, x), backwards(states, y)], range(4))


def plain_products(states, turns):
    """For each turn a product of one exchange, found by trying."""
    spelled = {states: ()}
    for ends in (waiting := [states]):
        for at in range(len(turns)):
            target = after_turns(states, [ends, turns[at]], (0, 1))
            if target not in spelled:
                spelled[target] = (*spelled[ends], at)
                waiting.append(target)
    pairs = {plain_exchange(states, x, y): (spelled[x], spelled[y]) for x, y in itertools.product(spelled, repeat=2)}
    return tuple((pairs[turn],) for turn in turns)


STATES = (0, 1, 2, 3, 4)
WORDS = ("a", "b")
PRODUCTS = plain_products(STATES, [plain_turn(FIVE, STATES, word) for word in WORDS])


class AttributeTest(unittest.TestCase):
    def test_as_given(self):
        self.assertIs(Answer(ONE).machine, ONE)
        built = Built(ONE, CIRCUIT, LEVELS)
        self.assertIs(built.machine, ONE)
        self.assertIs(built.circuit, CIRCUIT)
        self.assertEqual(built.levels, LEVELS)
        round_ring = Ring(FIVE, "a", STATES)
        self.assertEqual((round_ring.word, round_ring.states), ("a", STATES))
        self.assertIs(round_ring.machine, FIVE)
        knot = Knot(FIVE, STATES, WORDS, PRODUCTS)
        self.assertEqual((knot.states, knot.words, knot.products), (STATES, WORDS, PRODUCTS))
        self.assertIs(knot.machine, FIVE)

    def test_by_name(self):
        self.assertIs(Answer(machine=ONE).machine, ONE)
        self.assertTrue(Built(levels=LEVELS, circuit=CIRCUIT, machine=ONE).holds())
        self.assertTrue(Ring(states=STATES, word="a", machine=FIVE).holds(2, 3))
        self.assertTrue(Knot(products=PRODUCTS, words=WORDS, states=STATES, machine=FIVE).holds())

    def test_any_values(self):
        for value in ANY:
            self.assertEqual(Ring(ONE, value, value).word, value)
            self.assertEqual(Ring(ONE, value, value).states, value)
            self.assertIs(Ring(ONE, value, value).states.__class__, value.__class__)
            knot = Knot(ONE, value, value, value)
            self.assertEqual((knot.states, knot.words, knot.products), (value, value, value))
            self.assertEqual(Built(ONE, CIRCUIT, value).levels, value)

    def test_lists_are_copied(self):
        def levels():
            return [(0, [[0]], ([0],), []), [1, (2, [3])]]

        for make in (
            lambda value: Built(ONE, CIRCUIT, value).levels,
            lambda value: Ring(ONE, value, ()).word,
            lambda value: Ring(ONE, "", value).states,
            lambda value: Knot(ONE, value, (), ()).states,
            lambda value: Knot(ONE, (), value, ()).words,
            lambda value: Knot(ONE, (), (), value).products,
        ):
            for given in (levels(), tuple(levels())):
                kept = make(given)
                self.assertEqual(kept, given)
                self.assertIs(kept.__class__, given.__class__)
                given[0][1][0].append("x")
                given[0][2][0].clear()
                given[1][1][1].append("x")
                given[1].append("x")
                self.assertEqual(list(kept), levels())
                self.assertIs(kept[1].__class__, list)
                self.assertIs(kept[0][1].__class__, list)
            rows = levels()
            kept = make(rows)
            rows.append("x")
            rows[0] = "y"
            self.assertEqual(kept, levels())

    def test_lists_in_deep_tuples(self):
        inner = [1]
        value = ((((((((inner,),),),),),),),)
        kept = Ring(ONE, "", value).states
        inner.append(2)
        self.assertEqual(kept, ((((((((([1],),),),),),),),))[0:1] if False else ((((((((([1]),),),),),),),),))

    def test_holds_by_the_copy(self):
        levels = list(LEVELS)
        built = Built(ONE, CIRCUIT, levels)
        levels.clear()
        self.assertTrue(built.holds())

    def test_classes(self):
        for made in (Built(ONE, CIRCUIT, LEVELS), Ring(ONE, "", (0,)), Knot(ONE, (0,), (), ())):
            self.assertIsInstance(made, Answer)
            self.assertEqual(made.__class__.__bases__, (Answer,))
        for one in (Answer, Built, Ring, Knot):
            for name in ("__init__", "is_built", "holds", "told", "__repr__"):
                self.assertIn(name, vars(one), (one, name))

    def test_is_built(self):
        self.assertIs(Built(ONE, CIRCUIT, None).is_built, True)
        for other in (Answer(ONE), Ring(ONE, "", (0,)), Knot(ONE, (0,), (), ())):
            self.assertIs(other.is_built, False)
            with self.assertRaises(AttributeError):
                other.is_built = True


class ToldTest(unittest.TestCase):
    def test_all(self):
        cells = Circuit("a", [("const", 1), ("latch", 2, 0, 0), ("counter", 5, 0, 0), ("latch", 9, 0, 0), ("wire", 0, (0, 0))])
        for made, told in [
            (Answer(ONE), "answer"),
            (Built(ONE, CIRCUIT, LEVELS), "built of 0 cells"),
            (Built(ONE, cells, [1, 2]), "built of 3 cells"),
            (Built(ONE, Circuit("a", cells.lines()[:2]), None), "built of 1 cells"),
            (Ring(FIVE, "a", (0, 1)), "ring of 2 states"),
            (Ring(FIVE, "a", [0, 1, 2]), "ring of 3 states"),
            (Ring(FIVE, None, ()), "ring of 0 states"),
            (Ring(FIVE, None, ("x",)), "ring of 1 states"),
            (Knot(FIVE, STATES, WORDS, PRODUCTS), "knot of 2 words"),
            (Knot(FIVE, None, ["a"], None), "knot of 1 words"),
            (Knot(FIVE, None, (), None), "knot of 0 words"),
        ]:
            self.assertEqual(made.told(), told)
            self.assertEqual(repr(made), f"Answer({told})")


class AnswerTest(unittest.TestCase):
    def test_holds_nothing(self):
        for primes in ((), (2,), (2, 3, 5, 7), (97, 97)):
            self.assertIs(Answer(ONE).holds(*primes), False)
            self.assertIs(Answer(FIVE).holds(*primes), False)


class RingTest(unittest.TestCase):
    def test_right(self):
        for size in (2, 3, 5):
            machine = ring(size)
            around = tuple(range(size))
            self.assertIs(Ring(machine, "a", around).holds(), True)
            self.assertIs(Ring(machine, "a", (*around[1:], 0)).holds(7), True)
            self.assertIs(Ring(machine, "a" * (size - 1), around[::-1]).holds(11, 97), True)
            self.assertIs(Ring(machine, "a" * (size + 1), around).holds(7, 7), True)
        self.assertTrue(Ring(FIVE, "b", (0, 1, 2)).holds(2, 5))
        self.assertTrue(Ring(FIVE, "b", (2, 0, 1)).holds())
        self.assertTrue(Ring(FIVE, "bb", (2, 1, 0)).holds())
        self.assertTrue(Ring(FIVE, "a", STATES).holds(2, 3, 7))

    def test_judges(self):
        judge = Judge("ab", FIVE.rows(), [2])
        self.assertTrue(Ring(judge, "b", (0, 1, 2)).holds())

    def test_primes(self):
        for primes in ((5,), (2, 5), (5, 2), (7, 5, 5), (2, 3, 5, 7)):
            self.assertIs(Ring(FIVE, "a", STATES).holds(*primes), False)
        self.assertIs(Ring(FIVE, "b", (0, 1, 2)).holds(3), False)
        self.assertIs(Ring(FIVE, "b", (0, 1, 2)).holds(2, 5, 7, 11), True)

    def test_no_prime_number_of_states(self):
        for size in (1, 4, 6):
            self.assertIs(Ring(ring(size), "a", tuple(range(size))).holds(), False)
        self.assertIs(Ring(FIVE, "", (0,)).holds(), False)
        self.assertIs(Ring(FIVE, "b", (3,)).holds(2), False)
        self.assertIs(Ring(FIVE, "a", ()).holds(), False)

    def test_wrong_ways(self):
        for states in [(0, 2, 1), (0, 1, 3), (0, 1), (0, 1, 2, 3, 4), (1, 2), (0, 0, 0), (3, 3), (0, 1, 2, 0, 1), (4, 3, 2, 1, 0)]:
            self.assertIs(Ring(FIVE, "b", states).holds(), False, states)
        # The last state does not lead to the first one, or only this does.
        self.assertIs(Ring(FIVE, "a", (0, 1, 2)).holds(), False)
        self.assertIs(Ring(FIVE, "a", (2, 3)).holds(), False)
        self.assertIs(Ring(Machine("a", [(1,), (2,), (2,)]), "a", (2, 2)).holds(), False)
        self.assertIs(Ring(Machine("a", [(1,), (2,), (1,)]), "a", (0, 1, 2)).holds(), False)
        self.assertIs(Ring(Machine("a", [(1,), (2,), (1,)]), "a", (1, 2)).holds(), True)

    def test_states_that_are_not_reachable(self):
        self.assertIs(Ring(FIVE, "a", (5, 6)).holds(), False)
        self.assertIs(Ring(Machine("ab", FIVE.rows(), start=5), "a", (5, 6)).holds(), True)
        self.assertIs(Ring(Machine("ab", FIVE.rows(), start=5), "b", (0, 1, 2)).holds(), False)

    def test_any_words(self):
        for word in ANY:
            if word != "a":
                self.assertIs(Ring(FIVE, word, STATES).holds(), False, word)
        for word in ("c", "ac", "A", "a ", ("a",), ["a"]):
            self.assertIs(Ring(FIVE, word, STATES).holds(), False, word)

    def test_any_states(self):
        for states in ANY:
            self.assertIs(Ring(FIVE, "a", states).holds(), False, states)
        for value in [*ANY, True, 5, 7, 10 ** 9, "1", 1.0]:
            if value != 2 and not isinstance(value, float):
                self.assertIs(Ring(FIVE, "b", (0, 1, value)).holds(), False, value)
                self.assertIs(Ring(FIVE, "b", (value, 0, 1)).holds(), False, value)
        self.assertIs(Ring(FIVE, "b", (0, True, 2)).holds(), False)
        self.assertIs(Ring(FIVE, "b", (False, 1, 2)).holds(), False)
        self.assertIs(Ring(FIVE, "b", [0, 1, 2]).holds(), False)
        self.assertIs(Ring(FIVE, "b", "012").holds(), False)
        self.assertIs(Ring(FIVE, "b", {0: 1, 1: 2, 2: 0}).holds(), False)


class KnotTest(unittest.TestCase):
    def knot(self, machine=FIVE, states=STATES, words=WORDS, products=PRODUCTS):
        return Knot(machine, states, words, products)

    def check_wrong(self, **parts):
        self.assertIs(self.knot(**parts).holds(), False, parts)
        self.assertIs(self.knot(**parts).holds(2, 3, 5), False, parts)

    def test_right(self):
        for primes in ((), (2,), (2, 3, 5), (7, 97), (2, 3, 5, 7)):
            self.assertIs(self.knot().holds(*primes), True)
        self.assertTrue(self.knot(machine=Judge("ab", FIVE.rows(), [])).holds())

    def test_longer_products(self):
        first, second = PRODUCTS
        nothing = ((), ())
        self.assertTrue(self.knot(products=((nothing, *first), (*second, nothing, ((0,), (0,))))).holds())
        # Five times around is nothing, and three times the exchange of two turns of which one is nothing, too.
        self.assertTrue(self.knot(products=((*first, ((0,) * 5, (1,))), second)).holds())
        (x, y), = first
        self.assertTrue(self.knot(products=(((x + (0,) * 5, (1,) * 3 + y),), second)).holds())

    def test_words_that_move_nothing(self):
        self.assertTrue(self.knot(words=("a", "b", ""), products=(*PRODUCTS, ())).holds())
        first, second = self.moved((1, 3))
        self.assertTrue(self.knot(words=("", "a", "bbb", "b"), products=((), first, (), second)).holds())
        self.check_wrong(words=("",), products=((),))
        self.check_wrong(words=("", "bbb", "aaaaa"), products=((), (), ()))
        self.check_wrong(words=(), products=())
        self.check_wrong(words=("a", "b", "a"), products=(*PRODUCTS, ()))

    def moved(self, places):
        """The products with other indexes of the words."""
        return tuple(tuple(tuple(tuple(places[at] for at in row) for row in pair) for pair in product) for product in PRODUCTS)

    def test_order_of_words(self):
        first, second = self.moved((1, 0))
        self.assertTrue(self.knot(words=("b", "a"), products=(second, first)).holds())
        self.check_wrong(words=("b", "a"), products=(first, second))
        self.check_wrong(words=("b", "a"))
        self.check_wrong(products=PRODUCTS[::-1])

    def test_wrong_products(self):
        first, second = PRODUCTS
        (x, y), = first
        for product in [(), ((x, x),), ((y, x),), first + first, ((x, ()),), (((), y),), ((x[:-1], y),), ((x, y[1:]),), second]:
            self.check_wrong(products=(product, second))
        self.check_wrong(products=(first,))
        self.check_wrong(products=(first, second, ()))
        self.check_wrong(words=("a",), products=(first,))
        self.check_wrong(products=())

    def test_one_word_cannot_be_knotted(self):
        for product in [(((), ()),), (((0,), (0,)),), (((0, 0), (0,)),), ((), ()), ()]:
            self.check_wrong(words=("a",), products=(product,))

    def test_soluble_sets(self):
        machine = Machine("ab", [(1, 1), (2, 0), (0, 2)])
        # The exchange of these two turns leads around, as the first one does; nothing like this makes the second one.
        pairs = [((0,), (1,)), ((1,), (0,)), ((0, 1), (1,))]
        products = [(), *[(pair,) for pair in pairs], *itertools.product(pairs, repeat=2)]
        for first, second in itertools.product(products, repeat=2):
            self.assertIs(Knot(machine, (0, 1, 2), ("a", "b"), (first, second)).holds(), False)

    def test_other_sets(self):
        for states in [(0, 1, 2), (0, 1, 2, 3), (1, 2, 3, 4, 0), (0, 1, 2, 3, 4, 5), (0, 1, 2, 3, 4, 4), (), (0,), (5, 6), (0, 1, 2, 3, 6)]:
            self.check_wrong(states=states)
        # The states 5 and 6 are turned, but not reachable.
        self.check_wrong(states=(0, 1, 2, 3, 4, 5, 6))

    def test_words_that_do_not_turn(self):
        machine = Machine("abc", [(1, 1, 0), (2, 2, 0), (3, 0, 2), (4, 3, 3), (0, 4, 4)])
        self.assertTrue(self.knot(machine=machine).holds())
        self.check_wrong(machine=machine, words=("a", "b", "c"), products=(*PRODUCTS, ()))
        self.check_wrong(machine=machine, words=("a", "bc"))

    def test_lists_in_the_place_of_tuples(self):
        first, second = PRODUCTS
        (x, y), = first
        self.check_wrong(states=list(STATES))
        self.check_wrong(words=list(WORDS))
        self.check_wrong(products=list(PRODUCTS))
        self.check_wrong(products=(list(first), second))
        self.check_wrong(products=(([x, y],), second))
        self.check_wrong(products=(((list(x), y),), second))
        self.check_wrong(products=(((x, list(y)),), second))
        self.check_wrong(words=("a", "b", ""), products=(*PRODUCTS, []))
        self.check_wrong(words=("a", "b", ""), products=(*PRODUCTS, (([], ()),)))

    def test_any_parts(self):
        first, second = PRODUCTS
        (x, y), = first
        for value in ANY:
            self.check_wrong(states=value)
            self.check_wrong(words=value)
            self.check_wrong(products=value)
            self.check_wrong(products=(value, second))
            self.check_wrong(products=((value,), second))
            self.check_wrong(products=(((x, y, value),), second))
            self.check_wrong(states=(0, 1, 2, 3, value))
            if value not in ("a", ""):
                self.check_wrong(words=(value, "b"))
                self.check_wrong(words=("a", "b", value), products=(*PRODUCTS, ()))
            if value != y:
                self.check_wrong(products=(((x, value),), second))
            if value is True or value is False or value not in (0, 1):
                self.check_wrong(products=(((x + (value,), y),), second))
                self.check_wrong(products=(((x, (value,) + y),), second))
        for value in (2, -1, 10 ** 9):
            self.check_wrong(products=(((x + (value,), y),), second))

    def test_booleans_are_no_indexes(self):
        first, second = PRODUCTS
        swapped = tuple(tuple(tuple(bool(at) for at in row) for row in pair) for pair in first)
        self.assertEqual(swapped, first)
        self.check_wrong(products=(swapped, second))
        self.check_wrong(states=(False, 1, 2, 3, 4))

    def test_no_errors_are_raised(self):
        for value in ANY:
            try:
                Knot(FIVE, value, value, value).holds(2)
                Ring(FIVE, value, value).holds(2)
                Built(ONE, CIRCUIT, value).holds(2)
            except AheadError:
                self.fail(value)


if __name__ == "__main__":
    unittest.main()
