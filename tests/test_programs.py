"""Points 5 and 7: places, where bodies are, how many things are wanted."""

import unittest

from lazywebs.parts import many_in
from lazywebs.programs import body_place, places, wants
from samples import ONE, SAMPLE, SAMPLE_BODIES, fun, give, let, name, number

SAMPLE_PLACES = [
    (SAMPLE_BODIES[0], 0),
    (("times", number(2), number(3)), 0),
    (number(2), 0),
    (number(3), 0),
    (number(4), 0),
    (SAMPLE_BODIES[1], 1),
    (name("a"), 1),
    (("left", name("m")), 1),
    (name("m"), 1),
    (("pair", name("n"), fun("two")), 1),
    (name("n"), 1),
    (fun("two"), 1),
    (SAMPLE_BODIES[2], 2),
    (name("b"), 2),
    (("less", name("b"), name("a")), 2),
    (name("b"), 2),
    (name("a"), 2),
    (fun("none"), 2),
    (SAMPLE_BODIES[3], 3),
    (name("a"), 3),
    (let([("d", name("c"))], let([("e", name("d"))], ("right", name("e")))), 3),
    (name("c"), 3),
    (let([("e", name("d"))], ("right", name("e"))), 3),
    (name("d"), 3),
    (("right", name("e")), 3),
    (name("e"), 3),
    (SAMPLE_BODIES[4], 4),
    (fun("one"), 4),
    (("times", number(5), number(5)), 4),
    (number(5), 4),
    (number(5), 4),
]


class Places(unittest.TestCase):
    def test_function_by_function_and_asked_last(self):
        self.assertEqual(places(SAMPLE), SAMPLE_PLACES)

    def test_without_functions_asked_is_numbered_0(self):
        self.assertEqual(places(((), ("left", ONE))), [(("left", ONE), 0), (ONE, 0)])

    def test_of_a_let_the_rows_parts_come_in_order_ahead_of_the_inner_part(self):
        rows = [("d", ("left", number(1))), ("c", number(2)), ("b", ("right", number(3))), ("a", number(4))]
        asked = let(rows, ("left", number(5)))
        told = [part for part, _ in places(((), asked))]
        self.assertEqual(told, [
            asked, ("left", number(1)), number(1), number(2),
            ("right", number(3)), number(3), number(4), ("left", number(5)), number(5),
        ])

    def test_alike_bodies_have_places_of_their_own(self):
        program = ((("f", (), ONE), ("g", (), ONE)), ONE)
        self.assertEqual(places(program), [(ONE, 0), (ONE, 1), (ONE, 2)])

    def test_eight_functions(self):
        functions = tuple([("f" + "abcdefgh"[k], (), number(k)) for k in range(8)])
        self.assertEqual(places((functions, number(8))), [(number(k), k) for k in range(9)])

    def test_kinds_of_what_is_told(self):
        told = places(SAMPLE)
        self.assertIs(type(told), list)
        for row in told:
            self.assertIs(type(row), tuple)
            self.assertIs(type(row[1]), int)

    def test_the_list_is_the_askers_own(self):
        told = places(SAMPLE)
        self.assertIsNot(told, places(SAMPLE))
        told[0] = None
        told.append("more")
        self.assertEqual(places(SAMPLE), SAMPLE_PLACES)
        self.assertEqual(body_place(SAMPLE, ""), 26)


class Bodies(unittest.TestCase):
    def test_where_each_body_is(self):
        self.assertEqual([body_place(SAMPLE, f) for f in ("none", "one", "two", "three", "")], [0, 5, 12, 18, 26])

    def test_the_place_there_is_the_body(self):
        for number_of_it, function in enumerate([*SAMPLE[0], ("", (), SAMPLE[1])]):
            at = body_place(SAMPLE, function[0])
            self.assertEqual(places(SAMPLE)[at], (function[2], number_of_it))

    def test_functions_hang_on_no_order_of_names(self):
        for names in (("b", "a"), ("a", "b")):
            program = (tuple([(f, (), ("left", ONE)) for f in names]), give(ONE, ONE))
            self.assertEqual([body_place(program, f) for f in (*names, "")], [0, 2, 4])

    def test_without_functions(self):
        self.assertEqual(body_place(((), ONE), ""), 0)

    def test_greatest_bodies(self):
        body = ("left", ONE)
        while many_in(body) < 59:
            body = ("pair", body, ONE)
        functions = tuple([("f" + "abcdefgh"[k], (), body) for k in range(8)])
        self.assertEqual(body_place((functions, ONE), "fh"), 7 * many_in(body))
        self.assertEqual(body_place((functions, ONE), ""), 8 * many_in(body))

    def test_it_is_a_whole_number(self):
        self.assertIs(type(body_place(SAMPLE, "none")), int)


class Wants(unittest.TestCase):
    def test_as_many_things_as_it_has_names(self):
        self.assertEqual([wants(SAMPLE, f) for f in ("none", "one", "two", "three", "")], [0, 1, 2, 3, 0])
        self.assertEqual(wants(((("f", ("d", "c", "b", "a"), ONE),), ONE), "f"), 4)

    def test_rows_of_lets_are_not_wanted(self):
        asked = let([("x", ONE), ("y", ONE)], ONE)
        self.assertEqual(wants(((("f", ("a",), asked),), asked), "f"), 1)
        self.assertEqual(wants(((("f", ("a",), asked),), asked), ""), 0)

    def test_a_thing_may_be_called_as_a_function_is(self):
        program = ((("f", ("g",), name("g")), ("g", ("f", "h"), name("f"))), ONE)
        self.assertEqual([wants(program, f) for f in ("f", "g", "")], [1, 2, 0])

    def test_the_same_is_told_again(self):
        for _ in range(2):
            self.assertEqual(wants(SAMPLE, "three"), 3)
            self.assertIs(type(wants(SAMPLE, "three")), int)
