"""Point 11: nodes are numbered as they come, alike ones are one; what is seen where."""

import unittest

from lazywebs.looks import looked
from lazywebs.nodes import Nodes
from lazywebs.programs import body_place, places
from made import plus, programs
from samples import ONE, SAMPLE, fun, give, let, name, number

# Places: 0 let, 1 x's row (name y), 2 y's row (name a), 3 z's row (pair), 4 x, 5 b, 6 plus,
# 7 z, 8 let, 9 w's row (name w), 10 pair, 11 w, 12 x; 13 asked.
LETS = looked(((("f", ("a", "b"), let(
    [("x", name("y")), ("y", name("a")), ("z", ("pair", name("x"), name("b")))],
    plus(name("z"), let([("w", name("w"))], ("pair", name("w"), name("x")))),
)),), ONE))


class Table(unittest.TestCase):
    def test_at_first_there_is_none(self):
        self.assertEqual(Nodes(SAMPLE).many(), 0)

    def test_they_are_numbered_as_they_come(self):
        nodes = Nodes(SAMPLE)
        due = [(26, ()), (0, ()), (4, ()), (5, (0,)), (5, (2,)), (13, (4, 0)), (13, (0, 4)), (18, (1, 1, 6)), (19, (1, 1, 6))]
        for number_of_it, (place, things) in enumerate(due):
            self.assertEqual(nodes.many(), number_of_it)
            self.assertEqual(nodes.node(place, things), number_of_it)
        self.assertEqual([nodes.told(k) for k in range(nodes.many())], due)

    def test_alike_ones_are_one(self):
        nodes = Nodes(SAMPLE)
        first = [nodes.node(26, ()), nodes.node(5, (0,)), nodes.node(0, ()), nodes.node(5, (2,))]
        again = [nodes.node(26, ()), nodes.node(5, (0,)), nodes.node(0, ()), nodes.node(5, (2,))]
        self.assertEqual((first, again, nodes.many()), ([0, 1, 2, 3], [0, 1, 2, 3], 4))

    def test_unlike_by_the_place_or_by_any_thing(self):
        nodes = Nodes(SAMPLE)
        one, two = nodes.node(0, ()), nodes.node(1, ())
        made = {nodes.node(place, things) for place in (18, 19) for things in (
            (one, one, one), (one, one, two), (one, two, one), (two, one, one), (two, two, two))}
        self.assertEqual((len(made), nodes.many()), (10, 12))

    def test_alike_parts_at_two_places_are_two_nodes(self):
        nodes = Nodes(((("f", (), ONE), ("g", (), ONE)), plus(ONE, ONE)))
        self.assertEqual([nodes.node(place, ()) for place in (0, 1, 3, 4)], [0, 1, 2, 3])

    def test_they_are_told_as_tuples(self):
        nodes = Nodes(SAMPLE)
        nodes.node(5, (nodes.node(26, ()),))
        for number_of_it in range(2):
            told = nodes.told(number_of_it)
            self.assertIs(type(told), tuple)
            self.assertIs(type(told[1]), tuple)
            self.assertEqual(nodes.node(*told), number_of_it)
        self.assertEqual(nodes.told(1), (5, (0,)))

    def test_two_tables_are_nothing_to_one_another(self):
        one, other = Nodes(SAMPLE), Nodes(SAMPLE)
        one.node(26, ())
        one.node(0, ())
        self.assertEqual((one.many(), other.many()), (2, 0))
        self.assertEqual(other.node(0, ()), 0)
        self.assertEqual((one.told(0), other.told(0)), ((26, ()), (0, ())))
        self.assertEqual((one.many(), other.many()), (2, 1))

    def test_numbers_are_whole_numbers(self):
        nodes = Nodes(SAMPLE)
        self.assertIs(type(nodes.node(26, ())), int)
        self.assertIs(type(nodes.seen(0, ())), int)
        self.assertIs(type(nodes.many()), int)


class Seen(unittest.TestCase):
    def setUp(self):
        self.nodes = Nodes(LETS)
        # Two nodes to be the things a and b.
        self.a, self.b = self.nodes.node(13, ()), self.nodes.node(0, (0, 0))
        self.things = (self.a, self.b)

    def test_the_places_are_as_counted_above(self):
        self.assertEqual([part[0] for part, _ in places(LETS)], [
            "let", "name", "name", "pair", "name", "name", "plus",
            "name", "let", "name", "pair", "name", "name", "number"])

    def test_a_thing_is_that_things_node(self):
        self.assertEqual(self.nodes.seen(2, self.things), self.a)
        self.assertEqual(self.nodes.seen(5, self.things), self.b)
        self.assertEqual(self.nodes.seen(2, (self.b, self.a)), self.b)
        self.assertEqual(self.nodes.seen(5, (self.b, self.a)), self.a)
        self.assertEqual(self.nodes.many(), 2)

    def test_a_lets_row_is_the_node_of_its_part(self):
        seen = self.nodes.seen(7, self.things)
        self.assertEqual((seen, self.nodes.told(seen)), (2, (3, self.things)))
        self.assertEqual(self.nodes.seen(7, self.things), 2)
        self.assertEqual(self.nodes.seen(7, (self.b, self.a)), 3)
        self.assertEqual(self.nodes.told(3), (3, (self.b, self.a)))

    def test_a_row_whose_part_is_a_name_is_gone_to_no_further(self):
        for place in (4, 12):
            self.assertEqual(self.nodes.told(self.nodes.seen(place, self.things)), (1, self.things))
        self.assertEqual(self.nodes.told(self.nodes.seen(1, self.things)), (2, self.things))

    def test_a_row_that_names_itself(self):
        for place in (9, 11):
            self.assertEqual(self.nodes.told(self.nodes.seen(place, self.things)), (9, self.things))

    def test_any_other_part_is_the_node_there(self):
        for place in (0, 3, 6, 8, 10):
            self.assertEqual(self.nodes.told(self.nodes.seen(place, self.things)), (place, self.things))
        self.assertEqual(self.nodes.seen(13, ()), self.a)

    def test_it_is_the_one_that_is_there_already(self):
        there = [self.nodes.node(place, self.things) for place in (3, 9, 6)]
        self.assertEqual([self.nodes.seen(place, self.things) for place in (7, 11, 6)], there)
        self.assertEqual(self.nodes.many(), 5)

    def test_each_kind(self):
        nodes = Nodes(SAMPLE)
        for place, (part, number_of_it) in enumerate(places(SAMPLE)):
            many = (0, 1, 2, 3, 0)[number_of_it]
            things = tuple(nodes.node(0, ()) for _ in range(many))
            if part[0] != "name":
                self.assertEqual(nodes.told(nodes.seen(place, things)), (place, things))

    def test_a_body_that_is_a_name(self):
        nodes = Nodes(((("f", ("a", "b"), name("b")),), give(fun("f"), ONE)))
        one, two = nodes.node(1, ()), nodes.node(2, ())
        self.assertEqual(nodes.seen(0, (one, two)), two)
        self.assertEqual(nodes.told(nodes.node(0, (one, two))), (0, (one, two)))

    def test_the_same_name_in_two_functions(self):
        body = let([("x", number(5))], name("x"))
        program = ((("f", ("a",), body), ("g", ("b", "a"), ("pair", body, name("a")))), body)
        nodes = Nodes(looked(program))
        one, two = nodes.node(0, ()), nodes.node(1, ())
        self.assertEqual(body_place(program, "g"), 3)
        self.assertEqual(nodes.told(nodes.seen(2, (one,))), (1, (one,)))
        self.assertEqual(nodes.told(nodes.seen(6, (one, two))), (5, (one, two)))
        self.assertEqual(nodes.seen(7, (one, two)), two)
        self.assertEqual(nodes.told(nodes.seen(10, ())), (9, ()))

    def test_many_programs(self):
        for program in programs(4000, 200):
            nodes = Nodes(program)
            first = nodes.node(body_place(program, ""), ())
            for place, (part, at) in enumerate(places(program)):
                names = [*program[0], ("", (), program[1])][at][1]
                things = (first,) * len(names)
                seen = nodes.seen(place, things)
                if part[0] != "name":
                    self.assertEqual(nodes.told(seen), (place, things))
                elif part[1] in names:
                    self.assertEqual(seen, first)
                else:
                    where, of = nodes.told(seen)
                    self.assertEqual(of, things)
                    self.assertIn((part[1], places(program)[where][0]), rows_of(program, at))


def rows_of(program, at):
    """All rows of lets in the body of the function of this number."""
    found = []
    for part, number_of_it in places(program):
        if part[0] == "let" and number_of_it == at:
            found.extend(part[1])
    return found
