"""Point 12: what a node needs, one behind the other, and what comes behind them all."""

import itertools
import unittest

from lazywebs.looks import looked
from lazywebs.nodes import Nodes
from lazywebs.programs import body_place, places
from lazywebs.rules import behind
from made import gives, less, plus
from samples import ONE, fun, give, let, name, number

GREATEST = 10 ** 60 - 1
KINDS_OF_TWO = ("plus", "less", "times", "below")
ROWS = [("x", name("y")), ("y", ("pair", name("a"), name("x")))]
# Parts of the function of, whose things are a and b; it is given nodes 0 and 1.
OF = {
    "number": number(-7), "thing": name("b"), "row": name("x"), "named": name("y"),
    "none": fun("none"), "two": fun("two"),
    "give": give(name("a"), less(name("b"), ONE)), "give thing": give(fun("two"), name("b")),
    "plus": plus(name("a"), name("x")), "less": less(ONE, name("b")),
    "times": ("times", name("b"), name("b")), "below": ("below", ("left", name("a")), name("b")),
    "when": ("when", name("b"), name("x"), number(4)), "pair": ("pair", name("b"), ("right", name("x"))),
    "left": ("left", name("y")), "right": ("right", name("a")),
}
NESTS = [("pair", OF[word], OF[other]) for word, other in zip(list(OF)[::2], list(OF)[1::2])]


def all_within(parts):
    """One part that has all of these within it."""
    while len(parts) > 1:
        parts = [("pair", *parts[k:k + 2]) if k + 1 < len(parts) else parts[k] for k in range(0, len(parts), 2)]
    return parts[0]


LET = let(ROWS, all_within(NESTS))
PROGRAM = looked((
    (("none", (), plus(ONE, ONE)), ("two", ("c", "d"), ("pair", name("d"), name("c"))), ("of", ("a", "b"), LET)),
    gives(fun("of"), ONE, give(fun("two"), ONE)),
))
PARTS = [part for part, _ in places(PROGRAM)]
WORTHS = [("number", 0), ("number", 5), ("function", "two", ()), ("function", "of", (0,)), ("pair", 0, 1)]


class BehindCase(unittest.TestCase):
    def setUp(self):
        self.nodes = Nodes(PROGRAM)
        self.a = self.nodes.node(PARTS.index(ONE, body_place(PROGRAM, "")), ())
        self.b = self.nodes.node(body_place(PROGRAM, "none"), ())
        self.things = (self.a, self.b)

    def place(self, part):
        return PARTS.index(part)

    def at(self, word):
        """The node of this part of the function of."""
        return self.nodes.node(self.place(OF[word]), self.things)

    def seen(self, part, things=None):
        return self.nodes.seen(self.place(part), self.things if things is None else things)

    def told(self, word, worths):
        """What is told, the list that is handed in looked at."""
        handed = list(worths)
        told = behind(self.nodes, self.at(word), handed)
        self.assertEqual(handed, list(worths))
        self.assertEqual(behind(self.nodes, self.at(word), handed), told)
        self.assertIs(type(told), tuple)
        return told


class Behind(BehindCase):
    def test_number(self):
        self.assertEqual(self.told("number", []), ("worth", ("number", -7)))

    def test_name_of_a_thing(self):
        self.assertEqual(self.told("thing", []), ("need", self.b))
        for worth in WORTHS:
            self.assertEqual(self.told("thing", [worth]), ("worth", worth))

    def test_name_of_a_row(self):
        need = self.nodes.node(self.place(name("y")), self.things)
        self.assertEqual(self.told("row", []), ("need", need))
        # The row is itself a name: its node needs the row that this one names.
        second = self.nodes.node(self.place(ROWS[1][1]), self.things)
        self.assertEqual(behind(self.nodes, need, []), ("need", second))
        for worth in WORTHS:
            self.assertEqual(self.told("row", [worth]), ("worth", worth))

    def test_let(self):
        node = self.nodes.node(self.place(LET), self.things)
        inner = self.nodes.node(self.place(LET[2]), self.things)
        self.assertEqual(behind(self.nodes, node, []), ("need", inner))
        for worth in WORTHS:
            self.assertEqual(behind(self.nodes, node, [worth]), ("worth", worth))

    def test_let_whose_inner_part_is_a_name(self):
        program = looked(((("f", ("a",), let([("x", name("a"))], name("x"))), ("g", ("a",), let([("x", ONE)], name("a")))), ONE))
        nodes = Nodes(program)
        one = nodes.node(6, ())
        row = nodes.node(1, (one,))
        self.assertEqual(behind(nodes, nodes.node(0, (one,)), []), ("need", row))
        self.assertEqual(behind(nodes, row, []), ("need", one))
        self.assertEqual(behind(nodes, nodes.node(3, (one,)), []), ("need", one))

    def test_fun_that_wants_nothing_is_a_call(self):
        self.assertEqual(self.told("none", []), ("call", self.b))
        self.assertEqual(self.nodes.told(self.b), (body_place(PROGRAM, "none"), ()))
        for worth in WORTHS:
            self.assertEqual(self.told("none", [worth]), ("worth", worth))

    def test_fun_that_wants_things(self):
        self.assertEqual(self.told("two", []), ("worth", ("function", "two", ())))

    def test_give_needs_the_function(self):
        self.assertEqual(self.told("give", []), ("need", self.a))
        fun_node = self.nodes.node(self.place(OF["give thing"]) + 1, self.things)
        self.assertEqual(self.told("give thing", []), ("need", fun_node))

    def test_give_of_what_is_no_function(self):
        for worth in (("number", 0), ("number", 3), ("pair", 0, 1)):
            self.assertEqual(self.told("give", [worth]), ("fault", "function"))

    def test_give_of_fewer_things_than_are_wanted(self):
        given = self.seen(less(name("b"), ONE))
        self.assertEqual(self.told("give", [("function", "two", ())]), ("worth", ("function", "two", (given,))))
        self.assertEqual(self.told("give thing", [("function", "of", ())]), ("worth", ("function", "of", (self.b,))))

    def test_give_of_the_last_thing_is_a_call(self):
        given = self.seen(less(name("b"), ONE))
        kind, need = self.told("give", [("function", "two", (self.b,))])
        self.assertEqual((kind, self.nodes.told(need)), ("call", (body_place(PROGRAM, "two"), (self.b, given))))
        kind, need = self.told("give thing", [("function", "of", (given,))])
        self.assertEqual((kind, self.nodes.told(need)), ("call", (body_place(PROGRAM, "of"), (given, self.b))))
        for worth in WORTHS:
            self.assertEqual(self.told("give", [("function", "two", (self.b,)), worth]), ("worth", worth))

    def test_give_of_one_to_four_things(self):
        names = ("a", "b", "c", "d")
        for many in range(1, 5):
            program = looked(((("f", names[:many], ONE),), give(ONE, ONE)))
            for ahead in range(many):
                nodes = Nodes(program)
                things = tuple(nodes.node(3, ()) for _ in range(ahead))
                told = behind(nodes, nodes.node(1, ()), [("function", "f", things)])
                given = nodes.node(3, ())
                if ahead + 1 < many:
                    self.assertEqual(told, ("worth", ("function", "f", (*things, given))))
                else:
                    self.assertEqual(told, ("call", nodes.node(0, (*things, given))))

    def test_numbers_needs(self):
        row = self.nodes.node(self.place(name("y")), self.things)
        one = self.nodes.node(self.place(OF["less"]) + 1, self.things)
        left = self.nodes.node(self.place(("left", name("a"))), self.things)
        for word, first, second in (("plus", self.a, row), ("less", one, self.b),
                                    ("times", self.b, self.b), ("below", left, self.b)):
            self.assertEqual(self.told(word, []), ("need", first))
            self.assertEqual(self.told(word, [("number", 3)]), ("need", second))

    def test_no_number_is_a_fault_ahead_of_the_next_need(self):
        for word, worth in itertools.product(KINDS_OF_TWO, WORTHS[2:]):
            self.assertEqual(self.told(word, [worth]), ("fault", "number"))
            self.assertEqual(self.told(word, [("number", 3), worth]), ("fault", "number"))

    def test_numbers(self):
        for a, b in itertools.product((0, 1, -1, 9, -12, 10 ** 29), repeat=2):
            for word, n in zip(KINDS_OF_TWO, (a + b, a - b, a * b, int(a < b))):
                told = self.told(word, [("number", a), ("number", b)])
                self.assertEqual(told, ("worth", ("number", n)))
                self.assertIs(type(told[1][1]), int)

    def test_within_and_beyond_sixty_figures(self):
        for word, a, b in (("plus", GREATEST - 1, 1), ("plus", 1 - GREATEST, -1), ("less", 1 - GREATEST, 1),
                           ("less", GREATEST - 1, -1), ("times", 10 ** 59, -9), ("times", GREATEST, 1)):
            n = {"plus": a + b, "less": a - b, "times": a * b}[word]
            self.assertEqual(self.told(word, [("number", a), ("number", b)]), ("worth", ("number", n)))
        for word, a, b in (("plus", GREATEST, 1), ("plus", -GREATEST, -1), ("less", -GREATEST, 1), ("less", GREATEST, -1),
                           ("times", 10 ** 59, 10), ("times", 10 ** 30, -(10 ** 30)), ("times", GREATEST, GREATEST)):
            self.assertEqual(self.told(word, [("number", a), ("number", b)]), ("fault", "great"))
        self.assertEqual(self.told("below", [("number", -GREATEST), ("number", GREATEST)]), ("worth", ("number", 1)))
        self.assertEqual(self.told("below", [("number", GREATEST), ("number", -GREATEST)]), ("worth", ("number", 0)))

    def test_when(self):
        row = self.nodes.node(self.place(name("y")), self.things)
        four = self.nodes.node(self.place(number(4)), self.things)
        self.assertEqual(self.told("when", []), ("need", self.b))
        for n in (1, -1, 2, GREATEST, -GREATEST):
            self.assertEqual(self.told("when", [("number", n)]), ("need", row))
        self.assertEqual(self.told("when", [("number", 0)]), ("need", four))
        for worth in WORTHS[2:]:
            self.assertEqual(self.told("when", [worth]), ("fault", "number"))
        for n, worth in itertools.product((0, 1), WORTHS):
            self.assertEqual(self.told("when", [("number", n), worth]), ("worth", worth))

    def test_pair(self):
        right = self.nodes.node(self.place(("right", name("x"))), self.things)
        self.assertEqual(self.told("pair", []), ("worth", ("pair", self.b, right)))

    def test_pair_whose_two_are_a_row_and_a_thing(self):
        node = self.nodes.node(self.place(ROWS[1][1]), self.things)
        row = self.nodes.node(self.place(name("y")), self.things)
        self.assertEqual(behind(self.nodes, node, []), ("worth", ("pair", self.a, row)))

    def test_sides(self):
        row = self.nodes.node(self.place(ROWS[1][1]), self.things)
        for word, first in (("left", row), ("right", self.a)):
            self.assertEqual(self.told(word, []), ("need", first))
            for worth in WORTHS[:4]:
                self.assertEqual(self.told(word, [worth]), ("fault", "pair"))
            for worth in WORTHS:
                self.assertEqual(self.told(word, [("pair", 0, 1), worth]), ("worth", worth))
        self.assertEqual(self.told("left", [("pair", 1, 0)]), ("need", 1))
        self.assertEqual(self.told("right", [("pair", 1, 0)]), ("need", 0))
        self.assertEqual(self.told("left", [("pair", 0, 0)]), ("need", 0))

    def test_it_is_told_by_the_things_of_the_node(self):
        turned = (self.b, self.a)
        node = self.nodes.node(self.place(OF["give"]), turned)
        self.assertEqual(behind(self.nodes, node, []), ("need", self.b))
        kind, need = behind(self.nodes, node, [("function", "two", (self.b,))])
        given = self.nodes.node(self.place(less(name("b"), ONE)), turned)
        self.assertEqual((kind, self.nodes.told(need)), ("call", (body_place(PROGRAM, "two"), (self.b, given))))

    def test_needs_have_things_of_lesser_numbers(self):
        for word in OF:
            for worths in ([], [("number", 1)], [("function", "two", (self.a,))], [("pair", 0, 1)]):
                if not (worths and self.told(word, [])[0] == "worth"):
                    self.told(word, worths)
        for number_of_it in range(self.nodes.many()):
            for thing in self.nodes.told(number_of_it)[1]:
                self.assertLess(thing, number_of_it)
