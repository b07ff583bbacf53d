"""Points 4, 5 and 6: what is a program, and how anything else is refused."""

import itertools
import unittest

from lazywebs.errors import Hidden, LazyError, NoProgram, Stranger, Twice
from lazywebs.looks import looked
from plainlooks import due
from samples import EACH_KIND, ONE, SAMPLE, fun, give, let, name, number, of_depth, of_many

GREATEST = 10 ** 60 - 1


def refusal(thing):
    """What is told of the thing, as plainlooks.due tells it."""
    try:
        told = looked(thing)
    except LazyError as refused:
        if type(refused) is NoProgram:
            return ("NoProgram",)
        return (type(refused).__name__, refused.name)
    return ("told",) if told is thing else ("another thing", told)


def eight(body):
    return tuple([("f" + "abcdefgh"[k], (), body) for k in range(8)])


def asked_only(part):
    return ((), part)


def of_function(names, body):
    return ((("f", names, body),), ONE)


class LooksCase(unittest.TestCase):
    def fits(self, program):
        self.assertIs(looked(program), program)

    def refused(self, thing):
        with self.assertRaises(NoProgram) as caught:
            looked(thing)
        self.assertIs(type(caught.exception), NoProgram)

    def due_is(self, refused, x, program):
        with self.assertRaises(refused) as caught:
            looked(program)
        self.assertIs(type(caught.exception), refused)
        self.assertEqual(caught.exception.name, x)


class Fits(LooksCase):
    def test_it_is_told_as_it_was_handed_in(self):
        self.fits(SAMPLE)
        for _ in range(2):
            self.assertEqual(looked(SAMPLE), SAMPLE)

    def test_each_kind_of_part(self):
        for part, _, _, _ in EACH_KIND:
            self.fits(((("f", ("x",), part if part[0] != "let" else ONE),), ONE))
            if part[0] == "let":
                self.fits(asked_only(part))

    def test_none_to_eight_functions(self):
        for many in range(9):
            self.fits((eight(ONE)[:many], ONE))

    def test_none_to_four_things(self):
        for many in range(5):
            self.fits(of_function(("a", "b", "c", "d")[:many], ONE))

    def test_a_body_of_sixty_parts(self):
        for many in range(1, 61):
            self.fits(asked_only(of_many(many)))
            self.fits(of_function((), of_many(many)))

    def test_eight_functions_of_sixty_parts_each(self):
        self.fits((eight(of_many(60)), of_many(60)))

    def test_a_body_twelve_deep(self):
        for deep in range(1, 13):
            self.fits(asked_only(of_depth(deep)))
            self.fits(of_function((), of_depth(deep)))
        self.fits(asked_only(("pair", ONE, of_depth(11))))
        self.fits(asked_only(let([("a", ONE), ("b", of_depth(11))], ONE)))
        part = name("a")
        for x in "lkjihgfedca":
            part = let([(x, part)], ONE)
        self.fits(asked_only(part))
        self.refused(asked_only(let([("m", part)], ONE)))

    def test_lets_of_one_to_four_rows(self):
        rows = [("a", name("d")), ("b", name("a")), ("c", name("b")), ("d", name("c"))]
        self.fits(asked_only(let([("a", name("a"))], name("a"))))
        self.fits(asked_only(let(rows, ("pair", name("a"), name("d")))))
        for many in range(1, 5):
            self.fits(asked_only(let([(x, ONE) for x, _ in rows[:many]], name("a"))))

    def test_names_of_one_to_eight_letters(self):
        for x in ("a", "z", "abcdefgh", "zzzzzzzz", "stuvwxyz", "ijklmnop", "qr"):
            self.fits(asked_only(let([(x, ONE)], name(x))))
            self.fits(((("f", (x,), name(x)), (x, (), fun(x))), fun(x)))

    def test_numbers_of_sixty_figures_either_way(self):
        for n in (0, -1, GREATEST, -GREATEST, 10 ** 59, -(10 ** 59)):
            self.fits(asked_only(number(n)))

    def test_words_of_the_program_may_be_names(self):
        for x in ("let", "number", "fun", "name", "when"):
            self.fits(((("fun", (x,), name(x)),), let([(x, ONE)], name(x))))

    def test_a_rows_name_is_known_in_all_rows_and_within(self):
        inner = let([("c", name("a"))], ("plus", name("b"), name("c")))
        self.fits(asked_only(let([("a", inner), ("b", name("a"))], name("b"))))
        self.fits(of_function(("t",), let([("a", name("t"))], ("pair", name("a"), name("t")))))

    def test_the_same_names_in_several_functions(self):
        body = let([("a", name("x"))], name("a"))
        self.fits(((("f", ("x",), body), ("g", ("x",), body)), let([("x", ONE)], name("x"))))

    def test_a_thing_or_a_row_may_be_called_as_a_function_is(self):
        self.fits(((("f", ("f",), give(fun("f"), name("f"))),), let([("f", fun("f"))], name("f"))))

    def test_functions_name_one_another_and_themselves(self):
        self.fits(((("f", (), fun("g")), ("g", (), fun("f")), ("h", (), fun("h"))), fun("f")))


class NoPrograms(LooksCase):
    def test_what_is_no_pair(self):
        for thing in (None, True, False, 0, 1, -7, "", "a", "program", (), [], (None,), ((),), ((), ONE, ()),
                      [(), ONE], ((), ONE, ONE), ONE, (ONE, ()), ((), ()), ((), None), (None, ONE)):
            self.refused(thing)

    def test_lists_for_tuples(self):
        for thing in ([(), ONE], ([], ONE), ((), ["number", 1]), ([("f", (), ONE)], ONE),
                      ((["f", (), ONE],), ONE), ((("f", [], ONE),), ONE), ((("f", (), ["number", 1]),), ONE),
                      ((), ("let", [("a", ONE)], ONE)), ((), ("let", (["a", ONE],), ONE)),
                      ((), ("let", (("a", ["number", 1]),), ONE)), ((), ("let", (("a", ONE),), ["number", 1])),
                      ((), ("left", ["number", 1])), ((), ("pair", ONE, ["number", 1]))):
            self.refused(thing)

    def test_what_is_no_function(self):
        for function in (None, True, 1, "f", (), ("f",), ("f", ()), ("f", (), ONE, ONE), (ONE, (), "f"),
                         ((), "f", ONE), ("f", "a", ONE), ("f", "", ONE), ("f", None, ONE), ("f", ("a"), ONE),
                         (None, (), ONE), ("", (), ONE), ("f", (None,), ONE), ("f", (("a",),), ONE),
                         ("f", (), None), ("f", (), ()), ("f", ("a", ""), ONE), ("f", (1,), ONE)):
            self.refused(((function,), ONE))
            self.refused(((("g", (), ONE), function), ONE))

    def test_true_and_false_are_no_numbers(self):
        for n in (True, False, None, "1", "", (1,), [1], ()):
            self.refused(asked_only(number(n)))
            self.refused(asked_only(("left", number(n))))

    def test_numbers_of_sixty_one_figures(self):
        for n in (10 ** 60, -(10 ** 60), 10 ** 61 - 1, 10 ** 5000, -(10 ** 5000)):
            self.refused(asked_only(number(n)))
            self.refused(of_function((), ("plus", ONE, number(n))))

    def test_names_of_other_signs(self):
        others = ["", "abcdefghi", "A", "aB", "a1", "1", " ", "a ", " a", "a_", "_", "a-b", "`", "{", "a.b", "?", "\n",
                  "a\n", "abcdefgh\n", None, True, 1, ("a",), ["a"], ()]
        for x in others:
            self.refused(asked_only(name(x)))
            self.refused(asked_only(fun(x)))
            self.refused(((((x, (), ONE)),), ONE))
            self.refused(of_function((x,), ONE))
            self.refused(of_function(("a", x), ONE))
            self.refused(asked_only(let([(x, ONE)], ONE)))
            self.refused(asked_only(let([("a", ONE), (x, ONE)], ONE)))

    def test_one_thing_more_or_fewer(self):
        for part, _, _, _ in EACH_KIND:
            self.refused(asked_only(part + (ONE,)))
            self.refused(asked_only(part[:-1]))
            self.refused(asked_only(("left", part + (ONE,))))
            self.refused(asked_only(part[1:]))

    def test_unknown_kinds(self):
        for kind in ("", "numbers", "Number", "call", "shut", "same", "bare", "LET", "plus ", "minus",
                     None, True, 0, 1, (), ("number",), ["number"]):
            for rest in ((), (1,), ("a",), (ONE,), (ONE, ONE), (ONE, ONE, ONE), ((("a", ONE),), ONE)):
                self.refused(asked_only((kind, *rest)))

    def test_what_is_no_part(self):
        for thing in (None, True, False, 0, 5, "", "name", "number", "left", (), [], (1,), ("a", "b")):
            self.refused(asked_only(thing))
            self.refused(asked_only(("left", thing)))
            self.refused(asked_only(("when", ONE, ONE, thing)))
            self.refused(asked_only(let([("a", thing)], ONE)))
            self.refused(asked_only(let([("a", ONE)], thing)))
            self.refused(of_function((), thing))

    def test_lets_of_none_and_of_five_rows(self):
        self.refused(asked_only(let([], ONE)))
        self.refused(asked_only(let([(x, ONE) for x in "abcde"], ONE)))
        self.refused(of_function((), ("left", let([(x, ONE) for x in "abcde"], ONE))))

    def test_what_is_no_row_of_a_let(self):
        for row in (None, True, 1, "a", "ab", (), ("a",), ("a", ONE, ONE), (ONE, "a"), ["a", ONE]):
            self.refused(asked_only(("let", (row,), ONE)))
            self.refused(asked_only(("let", (("b", ONE), row), ONE)))
        for rows in (None, True, 2, "a", "ab", ("a", ONE), [("a", ONE)]):
            self.refused(asked_only(("let", rows, ONE)))

    def test_nine_functions(self):
        self.refused(((*eight(ONE), ("i", (), ONE)), ONE))

    def test_five_things(self):
        self.refused(of_function(("a", "b", "c", "d", "e"), ONE))

    def test_bodies_of_sixty_one_parts(self):
        for many in (61, 62, 100):
            self.refused(asked_only(of_many(many)))
            self.refused(of_function((), of_many(many)))
        self.refused(asked_only(let([("a", of_many(30)), ("b", of_many(15))], of_many(15))))
        self.fits(asked_only(let([("a", of_many(30)), ("b", of_many(15))], of_many(14))))

    def test_bodies_thirteen_deep(self):
        for deep in (13, 14, 29):
            self.refused(asked_only(of_depth(deep)))
            self.refused(of_function((), of_depth(deep)))
        for part in (("pair", ONE, of_depth(12)), ("pair", of_depth(12), ONE), ("when", ONE, of_depth(12), ONE),
                     let([("a", ONE), ("b", of_depth(12))], ONE), let([("a", ONE)], of_depth(12))):
            self.refused(asked_only(part))

    def test_things_nested_thirty_deep(self):
        ups = (
            lambda a: (a,), lambda a: [a], lambda a: (a, ONE), lambda a: ((), a), lambda a: [[], a],
            lambda a: ("left", a), lambda a: ("pair", ONE, a), lambda a: ("let", a, ONE),
            lambda a: ("name", a), lambda a: ("f", (), a), lambda a: ("f", a, ONE), lambda a: (a, (), ONE),
        )
        for bottom, up in itertools.product(((), [], None, 0, "a", "number"), ups):
            thing = bottom
            for _ in range(28):
                thing = up(thing)
                self.assertEqual(refusal(thing), due(thing))
                self.assertEqual(refusal(((), thing)), due(((), thing)))
            self.refused(thing)
            self.refused(((), thing))
            self.refused(((thing,), ONE))
        thing = ()
        for k in range(30):
            thing = (thing,) if k % 2 else [thing]
            self.refused(thing)

    def test_things_that_hold_one_thing_twice(self):
        for bottom in ((), [], None, 0, "a", ONE):
            for up in (lambda a: (a, a), lambda a: ["let", a, a], lambda a: ("let", (("a", a),), a)):
                thing = bottom
                for _ in range(12):
                    thing = up(thing)
                self.refused(thing)
                self.refused(((), thing))

    def test_great_things(self):
        self.refused(tuple(range(40000)))
        self.refused((tuple([("f", (), ONE)] * 9000), ONE))
        self.refused(((), ("let", tuple([("a", ONE)] * 9000), ONE)))
        self.refused(((), ("name", "a" * 30000)))
        self.refused(of_function(("a",) * 30000, ONE))
        thing = ONE
        for _ in range(12):
            thing = ("pair", thing, thing)
        self.refused(asked_only(thing))

    def test_what_is_handed_in_is_not_changed(self):
        inner = ["number", 1]
        thing = [[("f", [], inner)], inner]
        self.refused(thing)
        self.assertEqual(thing, [[("f", [], ["number", 1])], ["number", 1]])

    def test_each_place_of_a_program_by_odd_things(self):
        odd = [None, True, False, 0, 1, 10 ** 60, "", "a", "zz", "number", "abcdefghi", (), [], ("a",), ONE, name("a"),
               ("left", ONE), of_depth(11), (("a", ONE),)]
        for other in odd:
            for changed in changes(SAMPLE, other):
                self.assertEqual(refusal(changed), due(changed), changed)


def changes(thing, other):
    """The thing with each of its things, and of theirs, changed to the other, left out, or doubled."""
    yield other
    if isinstance(thing, tuple):
        yield list(thing)
        for at, inner in enumerate(thing):
            yield thing[:at] + thing[at + 1:]
            yield thing[:at] + (other,) + thing[at:]
            for changed in changes(inner, other):
                yield thing[:at] + (changed,) + thing[at + 1:]


class Names(LooksCase):
    def test_twice(self):
        self.due_is(Twice, "f", ((("f", (), ONE), ("f", (), ONE)), ONE))
        self.due_is(Twice, "f", ((("f", (), ONE), ("g", (), ONE), ("f", ("a",), ONE)), ONE))

    def test_the_first_function_that_has_a_name_from_ahead(self):
        names = [("f", "g", "g", "f"), ("g", "f", "g", "f"), ("f", "g", "h", "g", "f", "h")]
        for row, x in zip(names, ("g", "g", "g")):
            self.due_is(Twice, x, (tuple([(f, (), ONE) for f in row]), ONE))

    def test_hidden_by_a_thing(self):
        self.due_is(Hidden, "a", of_function(("a", "a"), ONE))
        self.due_is(Hidden, "b", of_function(("a", "b", "b", "a"), ONE))
        self.due_is(Hidden, "a", of_function(("a", "b", "a", "b"), ONE))

    def test_hidden_by_a_row(self):
        self.due_is(Hidden, "a", of_function(("a",), let([("a", ONE)], ONE)))
        self.due_is(Hidden, "x", asked_only(let([("x", ONE), ("x", ONE)], ONE)))
        self.due_is(Hidden, "x", asked_only(let([("x", let([("x", ONE)], ONE))], ONE)))
        self.due_is(Hidden, "x", asked_only(let([("x", ONE)], let([("x", ONE)], ONE))))
        self.due_is(Hidden, "x", asked_only(("pair", let([("x", ONE)], ONE), let([("x", ONE)], ONE))))

    def test_things_ahead_of_rows(self):
        body = let([("a", ONE)], ONE)
        self.due_is(Hidden, "b", of_function(("a", "b", "b"), body))

    def test_let_by_let_in_the_order_of_their_places(self):
        inner = let([("y", ONE), ("x", ONE)], ONE)
        self.due_is(Hidden, "y", asked_only(let([("x", inner), ("y", ONE)], ONE)))
        self.due_is(Hidden, "x", asked_only(let([("x", inner), ("z", ONE)], ONE)))
        self.due_is(Hidden, "z", asked_only(let([("z", ONE), ("x", let([("z", ONE)], ONE))], inner)))
        self.due_is(Hidden, "x", asked_only(let([("z", ONE), ("x", inner)], let([("z", ONE)], ONE))))
        both = ("pair", let([("x", ONE), ("y", ONE)], ONE), let([("y", ONE), ("x", ONE)], ONE))
        self.due_is(Hidden, "y", asked_only(both))

    def test_a_rows_names_come_ahead_of_the_lets_within_that_row(self):
        inner = let([("b", ONE)], ONE)
        self.due_is(Hidden, "a", asked_only(let([("a", inner), ("b", ONE), ("a", ONE)], ONE)))

    def test_stranger_by_a_name(self):
        self.due_is(Stranger, "a", asked_only(name("a")))
        self.due_is(Stranger, "b", of_function(("a",), name("b")))
        self.due_is(Stranger, "a", ((("f", ("a",), ONE),), name("a")))
        self.due_is(Stranger, "f", of_function((), name("f")))

    def test_stranger_by_a_fun_part(self):
        self.due_is(Stranger, "f", asked_only(fun("f")))
        self.due_is(Stranger, "g", of_function((), fun("g")))
        self.due_is(Stranger, "a", of_function(("a",), fun("a")))
        self.due_is(Stranger, "x", asked_only(let([("x", ONE)], fun("x"))))

    def test_a_row_of_a_let_that_is_not_around(self):
        one = let([("x", ONE)], ONE)
        self.due_is(Stranger, "x", asked_only(("pair", one, name("x"))))
        self.due_is(Stranger, "x", asked_only(("pair", name("x"), one)))
        self.due_is(Stranger, "x", asked_only(let([("y", one)], name("x"))))
        self.due_is(Stranger, "x", asked_only(let([("y", one), ("z", name("x"))], ONE)))
        self.due_is(Stranger, "x", asked_only(let([("y", name("x"))], one)))
        self.due_is(Stranger, "x", asked_only(("pair", let([("y", ONE)], one), let([("z", name("x"))], ONE))))

    def test_stranger_in_the_order_of_places(self):
        self.due_is(Stranger, "b", asked_only(("pair", name("b"), name("a"))))
        self.due_is(Stranger, "b", asked_only(("pair", fun("b"), name("a"))))
        self.due_is(Stranger, "b", asked_only(("when", ONE, ("left", name("b")), fun("a"))))
        self.due_is(Stranger, "r", asked_only(let([("x", ONE), ("y", name("r"))], name("s"))))
        self.due_is(Stranger, "q", asked_only(let([("x", name("q")), ("y", name("r"))], name("s"))))
        self.due_is(Stranger, "s", asked_only(("pair", let([("x", ONE)], name("s")), name("r"))))

    def test_no_program_ahead_of_all_others(self):
        self.refused(((("f", (), ONE), ("f", (), ONE)), None))
        self.refused(((("f", ("a", "a"), name("b")), ("g", (), None)), ONE))
        self.refused(((("f", (), name("b")),), ("pair", ONE, number(True))))
        self.refused(asked_only(("pair", name("a"), name("A"))))

    def test_twice_ahead_of_the_others(self):
        functions = (("f", ("a", "a"), name("b")), ("g", (), ONE), ("g", (), ONE))
        self.due_is(Twice, "g", (functions, name("c")))

    def test_hidden_ahead_of_stranger_of_one_function(self):
        self.due_is(Hidden, "a", of_function(("a", "a"), name("b")))
        body = ("pair", name("b"), let([("a", ONE)], ONE))
        self.due_is(Hidden, "a", of_function(("a",), body))
        self.due_is(Hidden, "x", asked_only(("pair", name("b"), let([("x", ONE), ("x", fun("f"))], ONE))))

    def test_both_of_one_function_ahead_of_the_next_ones(self):
        stranger, hidden = ("f", (), name("b")), ("g", ("a", "a"), ONE)
        self.due_is(Stranger, "b", ((stranger, hidden), ONE))
        self.due_is(Hidden, "a", ((hidden, stranger), ONE))
        self.due_is(Stranger, "b", ((("h", (), ONE), stranger, hidden), name("c")))

    def test_asked_comes_last(self):
        hidden = let([("x", ONE), ("x", ONE)], ONE)
        self.due_is(Stranger, "b", ((("f", (), name("b")),), hidden))
        self.due_is(Hidden, "x", ((("f", (), ONE),), hidden))
        self.due_is(Stranger, "c", ((("f", (), ONE),), name("c")))

    def test_each_refusal_is_a_lazy_error_and_a_value_error_alone(self):
        cases = [
            (NoProgram, None), (Twice, ((("f", (), ONE), ("f", (), ONE)), ONE)),
            (Hidden, of_function(("a", "a"), ONE)), (Stranger, asked_only(name("a"))),
        ]
        for refused, thing in cases:
            with self.assertRaises(ValueError) as caught:
                looked(thing)
            self.assertIsInstance(caught.exception, LazyError)
            others = [kind for kind, _ in cases if isinstance(caught.exception, kind)]
            self.assertEqual(others, [refused])

    def test_behind_a_refusal_the_same_is_told_as_before(self):
        bad = (None, of_function(("a", "a"), ONE), asked_only(name("a")), ((("f", (), ONE), ("f", (), ONE)), ONE))
        for thing in bad:
            before = refusal(thing)
            self.fits(SAMPLE)
            self.assertEqual(refusal(thing), before)
            self.fits(SAMPLE)

    def test_many_small_programs(self):
        bodies = [
            name("a"), ("pair", fun("b"), name("b")), fun("f"), let([("a", name("b"))], fun("f")),
            let([("b", name("a")), ("a", name("b"))], ("pair", name("a"), fun("g"))),
            ("pair", name("a"), let([("c", name("b"))], let([("a", ONE)], name("c")))),
        ]
        things = [(), ("a",), ("b", "a"), ("a", "b", "b")]
        functions = list(itertools.product("fg", things, bodies))
        for asked in bodies:
            self.assertEqual(refusal(((), asked)), due(((), asked)))
            for one in functions:
                self.assertEqual(refusal(((one,), asked)), due(((one,), asked)))
        for one, other in itertools.product(functions, functions):
            program = ((one, other), bodies[2])
            self.assertEqual(refusal(program), due(program), program)

    def test_names_moved_about_in_a_greater_program(self):
        told = {}
        for x in ("a", "b", "m", "e", "zz"):
            for changed in changes(SAMPLE, x):
                self.assertEqual(refusal(changed), due(changed), changed)
                told[refusal(changed)[0]] = True
        self.assertEqual(sorted(told), ["Hidden", "NoProgram", "Stranger", "told"])
