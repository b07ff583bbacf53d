"""Points 16, 17 and 18: the built rows and the lean rows of functions."""

import itertools
import unittest

from lazywebs.doing import Doer
from lazywebs.looks import looked
from lazywebs.plain import led
from lazywebs.rows import all_rows, built_rows, lean_rows
from made import asked_only, gives, plus, programs
from plainrows import HEAVY, PlainMachine, fits
from samples import ONE, SAMPLE, fun, give, let, name, number

TWO, FOUR = number(2), number(4)
DO, DO_PAIR, BACK = ("do", "number"), ("do", "pair"), ("back",)
A, B, C = ("thing", 0), ("thing", 1), ("thing", 2)
a, b, c = name("a"), name("b"), name("c")


def of_body(body):
    """A program with a function f of things a, b and c, and one that wants nothing."""
    return looked(((("none", (), ONE), ("f", ("a", "b", "c"), body)), ONE))


class RowsCase(unittest.TestCase):
    def built(self, body, *due):
        self.assertEqual(built_rows(of_body(body), "f"), (*due, BACK), body)

    def lean(self, body, *due):
        self.assertEqual(lean_rows(of_body(body), "f"), (*due, BACK), body)

    def both(self, body, *due):
        self.built(body, *due)
        self.lean(body, *due)


class Built(RowsCase):
    def test_what_has_nothing_within(self):
        self.both(number(-5), number(-5))
        self.both(fun("f"), fun("f"))
        self.both(fun("none"), fun("none"))
        for k, x in enumerate("abc"):
            self.both(name(x), ("thing", k))

    def test_each_kind_of_parts(self):
        for kind in ("give", "plus", "less", "times", "below", "pair"):
            self.built((kind, a, b), A, B, (kind,))
            self.built((kind, b, ONE), B, ONE, (kind,))
        self.built(("when", c, a, b), C, A, B, ("when",))
        for kind in ("left", "right"):
            self.built((kind, c), C, (kind,))

    def test_parts_within_parts(self):
        self.built(plus(plus(a, b), ("left", c)), A, B, ("plus",), C, ("left",), ("plus",))
        self.built(("when", ("below", a, b), ("pair", a, fun("none")), give(c, ONE)),
                   A, B, ("below",), A, fun("none"), ("pair",), C, ONE, ("give",), ("when",))
        self.built(gives(a, b, c), A, B, ("give",), C, ("give",))

    def test_let(self):
        self.built(let([("x", ONE)], name("x")), ("room", 0, 1), ONE, ("tie", 0), ("local", 0))
        self.built(let([("x", name("y")), ("y", plus(a, name("x")))], ("pair", name("y"), b)),
                   ("room", 0, 2), ("local", 1), ("tie", 0), A, ("local", 0), ("plus",), ("tie", 1),
                   ("local", 1), B, ("pair",))

    def test_lets_of_one_to_four_rows(self):
        names = "wxyz"
        for many in range(1, 5):
            rows = [(x, number(k)) for k, x in enumerate(names[:many])]
            ties = [step for k in range(many) for step in (number(k), ("tie", k))]
            self.built(let(rows, name(names[many - 1])), ("room", 0, many), *ties, ("local", many - 1))

    def test_each_step_of_lets_within(self):
        inner = let([("y", name("x")), ("z", a)], ("left", name("y")))
        self.built(let([("x", inner)], name("x")),
                   ("room", 0, 1), ("room", 1, 2), ("local", 0), ("tie", 1), A, ("tie", 2),
                   ("local", 1), ("left",), ("tie", 0), ("local", 0))

    def test_asked(self):
        self.assertEqual(built_rows(asked_only(plus(ONE, TWO)), ""), (ONE, TWO, ("plus",), BACK))
        self.assertEqual(built_rows(SAMPLE, ""), (fun("one"), number(5), number(5), ("times",), ("give",), BACK))


class Locals(RowsCase):
    def test_let_by_let_in_the_order_of_their_places_row_by_row(self):
        first = let([("c", ONE), ("d", ONE)], name("c"))
        second = let([("e", ONE)], name("e"))
        third = let([("g", ONE), ("h", let([("k", ONE)], name("k")))], name("h"))
        program = asked_only(let([("a", first), ("b", second)], third))
        # a, b; c, d; e; g, h; k.
        due = (
            ("room", 0, 2),
            ("room", 2, 2), ONE, ("tie", 2), ONE, ("tie", 3), ("local", 2), ("tie", 0),
            ("room", 4, 1), ONE, ("tie", 4), ("local", 4), ("tie", 1),
            ("room", 5, 2), ONE, ("tie", 5), ("room", 7, 1), ONE, ("tie", 7), ("local", 7), ("tie", 6), ("local", 6),
            BACK,
        )
        self.assertEqual(built_rows(program, ""), due)
        self.assertEqual(lean_rows(program, ""), due)

    def test_lets_beside_one_another(self):
        self.built(plus(let([("x", a)], name("x")), let([("y", b), ("z", c)], name("z"))),
                   ("room", 0, 1), A, ("tie", 0), ("local", 0),
                   ("room", 1, 2), B, ("tie", 1), C, ("tie", 2), ("local", 2), ("plus",))

    def test_each_function_has_its_own(self):
        body = let([("x", ONE)], name("x"))
        program = looked(((("f", ("a",), body), ("g", (), body)), body))
        due = (("room", 0, 1), ONE, ("tie", 0), ("local", 0), BACK)
        for rows in (built_rows, lean_rows):
            self.assertEqual([rows(program, f) for f in ("f", "g", "")], [due] * 3)

    def test_names_in_other_orders_than_their_letters(self):
        self.both(let([("z", a), ("y", b)], ("pair", name("y"), name("z"))),
                  ("room", 0, 2), A, ("tie", 0), B, ("tie", 1), ("local", 1), ("local", 0), ("pair",))


class Lean(RowsCase):
    def test_what_is_built_all_the_same(self):
        self.lean(give(a, b), A, B, ("give",))
        self.lean(("pair", a, b), A, B, ("pair",))
        # What is within these is built too.
        self.lean(give(plus(a, b), ("left", c)), A, B, ("plus",), C, ("left",), ("give",))
        self.lean(("pair", ("when", a, b, c), ONE), A, B, C, ("when",), ONE, ("pair",))

    def test_the_endings_of_numbers(self):
        for kind in ("plus", "less", "times", "below"):
            self.lean((kind, a, ONE), A, DO, ONE, DO, ("now", kind))
        self.lean(plus(("times", a, b), c), A, DO, B, DO, ("now", "times"), C, DO, ("now", "plus"))
        self.lean(plus(a, ("times", b, c)), A, DO, B, DO, C, DO, ("now", "times"), ("now", "plus"))
        self.lean(plus(give(a, b), ("pair", a, b)), A, B, ("give",), DO, A, B, ("pair",), DO, ("now", "plus"))

    def test_the_ending_of_when(self):
        self.lean(("when", a, b, c), A, DO, ("turn", (B,), (C,)))
        self.lean(("when", plus(a, b), plus(a, ONE), give(a, b)), A, DO, B, DO, ("now", "plus"),
                  ("turn", (A, DO, ONE, DO, ("now", "plus")), (A, B, ("give",))))
        self.lean(("when", a, ("when", b, ONE, TWO), ("left", c)), A, DO,
                  ("turn", (B, DO, ("turn", (ONE,), (TWO,))), (C, DO_PAIR, ("side", "left"))))

    def test_the_endings_of_sides(self):
        for kind in ("left", "right"):
            self.lean((kind, a), A, DO_PAIR, ("side", kind))
            self.lean((kind, ("pair", a, b)), A, B, ("pair",), DO_PAIR, ("side", kind))
        self.lean(("left", ("right", a)), A, DO_PAIR, ("side", "right"), DO_PAIR, ("side", "left"))

    def test_the_ending_of_let(self):
        self.lean(let([("x", plus(a, b))], plus(name("x"), ONE)),
                  ("room", 0, 1), A, B, ("plus",), ("tie", 0), ("local", 0), DO, ONE, DO, ("now", "plus"))
        self.lean(let([("x", ONE)], ("left", name("x"))),
                  ("room", 0, 1), ONE, ("tie", 0), ("local", 0), DO_PAIR, ("side", "left"))

    def test_doings_by_number(self):
        inner = [
            (a, (A, DO)), (ONE, (ONE, DO)), (fun("f"), (fun("f"), DO)), (give(a, b), (A, B, ("give",), DO)),
            (("pair", a, b), (A, B, ("pair",), DO)), (("less", a, b), (A, DO, B, DO, ("now", "less"))),
            (("when", a, b, plus(a, b)), (A, DO, ("turn", (B, DO), (A, DO, B, DO, ("now", "plus"))))),
            (("right", a), (A, DO_PAIR, ("side", "right"), DO)),
            (let([("x", a)], name("x")), (("room", 0, 1), A, ("tie", 0), ("local", 0), DO)),
            (let([("x", a)], plus(b, c)), (("room", 0, 1), A, ("tie", 0), B, DO, C, DO, ("now", "plus"))),
        ]
        for part, steps in inner:
            self.lean(plus(part, c), *steps, C, DO, ("now", "plus"))
            self.lean(plus(c, part), C, DO, *steps, ("now", "plus"))
            self.lean(("when", part, a, b), *steps, ("turn", (A,), (B,)))

    def test_doings_by_pair(self):
        inner = [
            (a, (A, DO_PAIR)), (ONE, (ONE, DO_PAIR)), (fun("none"), (fun("none"), DO_PAIR)),
            (give(a, b), (A, B, ("give",), DO_PAIR)), (("pair", a, b), (A, B, ("pair",), DO_PAIR)),
            (("times", a, b), (A, DO, B, DO, ("now", "times"), DO_PAIR)),
            (("when", a, b, plus(a, b)), (A, DO, ("turn", (B, DO_PAIR), (A, DO, B, DO, ("now", "plus"), DO_PAIR)))),
            (("right", a), (A, DO_PAIR, ("side", "right"), DO_PAIR)),
            (let([("x", a)], name("x")), (("room", 0, 1), A, ("tie", 0), ("local", 0), DO_PAIR)),
            (let([("x", a)], plus(b, c)), (("room", 0, 1), A, ("tie", 0), B, DO, C, DO, ("now", "plus"), DO_PAIR)),
        ]
        for part, steps in inner:
            for kind in ("left", "right"):
                self.lean((kind, part), *steps, ("side", kind))

    def test_a_when_within_a_left_within_a_plus(self):
        self.lean(plus(("left", ("when", ("below", a, b), c, ("right", c))), ONE),
                  A, DO, B, DO, ("now", "below"), ("turn", (C, DO_PAIR), (C, DO_PAIR, ("side", "right"), DO_PAIR)),
                  ("side", "left"), DO, ONE, DO, ("now", "plus"))
        self.lean(("when", ("left", ("when", plus(a, b), c, c)), a, b),
                  A, DO, B, DO, ("now", "plus"), ("turn", (C, DO_PAIR), (C, DO_PAIR)), ("side", "left"), DO,
                  ("turn", (A,), (B,)))

    def test_lets_in_both_rows_of_a_turn(self):
        self.lean(("when", a, let([("x", b)], plus(name("x"), ONE)), let([("y", c)], name("y"))),
                  A, DO, ("turn", (("room", 0, 1), B, ("tie", 0), ("local", 0), DO, ONE, DO, ("now", "plus")),
                          (("room", 1, 1), C, ("tie", 1), ("local", 1))))


class Both(RowsCase):
    def test_all_kinds_one_within_another(self):
        made = [
            lambda part, x: plus(part, ONE), lambda part, x: ("less", a, part), lambda part, x: ("when", part, b, c),
            lambda part, x: ("when", a, part, c), lambda part, x: ("when", a, b, part), lambda part, x: ("left", part),
            lambda part, x: ("pair", part, b), lambda part, x: give(fun("none"), part),
            lambda part, x: let([(x, part)], name(x)), lambda part, x: let([(x, b)], part),
        ]
        for one, two, three in itertools.product(made, repeat=3):
            program = of_body(one(two(three(a, "x"), "y"), "z"))
            self.assertTrue(fits(program, "f", built_rows(program, "f"), False))
            self.assertTrue(fits(program, "f", lean_rows(program, "f"), True))

    def test_many_programs_match(self):
        for program in programs(13000, 400):
            for f in [function[0] for function in program[0]] + [""]:
                built, lean = built_rows(program, f), lean_rows(program, f)
                self.assertTrue(fits(program, f, built, False))
                self.assertTrue(fits(program, f, lean, True))
                body = dict((name_of, part) for name_of, _, part in [*program[0], ("", (), program[1])])[f]
                self.assertEqual(built == lean, body[0] not in HEAVY or is_let_of_light(body))

    def test_they_are_tuples_of_tuples_with_back_last(self):
        def check(steps):
            self.assertIs(type(steps), tuple)
            for step in steps:
                self.assertIs(type(step), tuple)
                self.assertIs(type(step[0]), str)
                if step[0] == "turn":
                    self.assertEqual(len(step), 3)
                    check(step[1])
                    check(step[2])
                self.assertNotEqual(step, BACK)

        for program in programs(13500, 100):
            for lean in (True, False):
                for rows in all_rows(program, lean):
                    self.assertEqual(rows[-1], BACK)
                    check(rows[:-1])

    def test_all_rows_are_in_the_functions_order_with_askeds_last(self):
        for lean, rows in ((False, built_rows), (True, lean_rows)):
            due = tuple(rows(SAMPLE, f) for f in ("none", "one", "two", "three", ""))
            self.assertEqual(all_rows(SAMPLE, lean), due)
            self.assertIs(type(all_rows(SAMPLE, lean)), tuple)
            self.assertEqual(all_rows(asked_only(ONE), lean), ((ONE, BACK),))
        self.assertNotEqual(all_rows(SAMPLE, True), all_rows(SAMPLE, False))
        turned = ((("g", (), ONE), ("f", (), TWO)), FOUR)
        self.assertEqual(all_rows(turned, True), ((ONE, BACK), (TWO, BACK), (FOUR, BACK)))

    def test_the_greatest_bodies(self):
        for kind in ("plus", "pair"):
            program = asked_only(balanced(kind, 59))
            self.assertTrue(fits(program, "", built_rows(program, ""), False))
            self.assertTrue(fits(program, "", lean_rows(program, ""), True))
        deep = name("m")
        for x in "lkjihgfedcm":
            deep = let([(x, plus(ONE, TWO) if x == "m" else ONE)], deep)
        program = asked_only(deep)
        self.assertTrue(fits(program, "", built_rows(program, ""), False))
        self.assertTrue(fits(program, "", lean_rows(program, ""), True))

    def test_the_same_is_told_again_and_the_program_stays(self):
        program = of_body(let([("x", plus(a, b))], ("when", name("x"), b, c)))
        before = of_body(let([("x", plus(a, b))], ("when", name("x"), b, c)))
        first = (all_rows(program, True), all_rows(program, False))
        self.assertEqual((all_rows(program, True), all_rows(program, False)), first)
        self.assertEqual(program, before)

    def test_a_machine_that_goes_by_them_tells_what_the_others_tell(self):
        same = 0
        for program in programs(14000, 500):
            told, words = led(program, program[1], 200)
            due = Doer(program).told(0, 200)
            for lean in (True, False):
                machine = PlainMachine(program, all_rows(program, lean))
                came = machine.told(0, 60)
                if told != ("more",):
                    self.assertEqual(came, told)
                    self.assertLessEqual(machine.calls, words.count("call"))
                    same += 1
                elif came != ("more",):
                    self.assertEqual(came, due)
        self.assertGreater(same, 600)


def balanced(kind, many):
    """A part of so many parts, an odd number, none but numbers and of the kind."""
    if many == 1:
        return ONE
    ahead = (many - 1) // 2
    ahead -= 1 - ahead % 2
    return (kind, balanced(kind, ahead), balanced(kind, many - 1 - ahead))


def is_let_of_light(body):
    while body[0] == "let":
        body = body[2]
    return body[0] not in HEAVY
