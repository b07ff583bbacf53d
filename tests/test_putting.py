"""Points 8 and 9: putting in, what a worth is, each step and each fault."""

import itertools
import unittest

from lazywebs.parts import all_in
from lazywebs.plain import led
from lazywebs.putting import is_worth, put_in, step
from made import GROWS, WAITS, asked_only, gives, plus, programs
from plainsteps import due_step, put
from samples import EACH_KIND, ONE, SAMPLE, fun, give, let, name, number

GREATEST = 10 ** 60 - 1
TWO, THREE = number(2), number(3)
PAIR = ("pair", ONE, TWO)
NONE = ((("none", (), PAIR), ("one", ("a",), name("a")), ("two", ("a", "b"), ("pair", name("b"), name("a"))),
         ("three", ("a", "b", "c"), ("plus", name("c"), ("less", name("a"), name("b")))),
         ("four", ("a", "b", "c", "d"), ("when", name("a"), name("b"), ("pair", name("c"), name("d"))))), ONE)
WANTED = {"none": 0, "one": 1, "two": 2, "three": 3, "four": 4}


def shut(part):
    return ("shut", part)


# Closed parts that are no worth, each with its step, and the worths.
STEPS = [
    (fun("none"), ("call", PAIR)),
    (give(fun("one"), ONE), ("call", shut(ONE))),
    (shut(ONE), ("open", ONE)),
    (let([("x", ONE)], name("x")), ("let", shut(let([("x", ONE)], ONE)))),
    (("plus", ONE, TWO), ("number", THREE)),
    (("when", ONE, TWO, THREE), ("turn", TWO)),
    (("left", PAIR), ("side", ONE)),
]
FAULTS = [
    (give(ONE, TWO), "function"),
    (("plus", PAIR, ONE), "number"),
    (("left", ONE), "pair"),
    (("times", number(10 ** 30), number(10 ** 30)), "great"),
]
WORTHS = [ONE, number(0), PAIR, ("pair", fun("none"), shut(ONE)), fun("one"), fun("four"), give(fun("two"), PAIR)]
KINDS_OF_TWO = ("plus", "less", "times", "below")


class PutIn(unittest.TestCase):
    def test_a_name_becomes_the_shut_part(self):
        self.assertEqual(put_in(name("a"), {"a": PAIR}), shut(PAIR))

    def test_each_kind(self):
        for part, _, _, _ in EACH_KIND:
            if part == name("x"):
                continue
            self.assertEqual(put_in(part, {"q": PAIR}), part)
        a, b, c = name("a"), name("b"), name("c")
        things = {"a": ONE, "b": PAIR, "c": fun("f")}
        for kind in ("give", "plus", "less", "times", "below", "pair"):
            self.assertEqual(put_in((kind, b, a), things), (kind, shut(PAIR), shut(ONE)))
        self.assertEqual(put_in(("when", c, a, b), things), ("when", shut(fun("f")), shut(ONE), shut(PAIR)))
        for kind in ("left", "right"):
            self.assertEqual(put_in((kind, c), things), (kind, shut(fun("f"))))
        self.assertEqual(put_in(fun("a"), things), fun("a"))
        self.assertEqual(put_in(number(7), things), number(7))

    def test_in_rows_of_lets_and_in_their_inner_parts(self):
        part = let([("x", name("a")), ("y", plus(name("b"), name("x")))], ("pair", name("a"), name("y")))
        due = let([("x", shut(ONE)), ("y", plus(shut(TWO), name("x")))], ("pair", shut(ONE), name("y")))
        self.assertEqual(put_in(part, {"a": ONE, "b": TWO}), due)

    def test_rows_of_lets_that_are_not_in_the_dict_stay(self):
        part = let([("x", name("x"))], let([("y", name("x"))], plus(name("y"), name("a"))))
        due = let([("x", name("x"))], let([("y", name("x"))], plus(name("y"), shut(ONE))))
        self.assertEqual(put_in(part, {"a": ONE}), due)

    def test_a_rows_name_where_the_let_around_it_is_not_in_the_part(self):
        inner = let([("y", name("x"))], ("pair", name("y"), name("x")))
        self.assertEqual(put_in(inner, {"x": PAIR}), let([("y", shut(PAIR))], ("pair", name("y"), shut(PAIR))))

    def test_names_that_the_part_has_not(self):
        self.assertEqual(put_in(plus(name("a"), ONE), {"a": TWO, "b": PAIR, "zz": ONE}), plus(shut(TWO), ONE))
        self.assertEqual(put_in(ONE, {"a": TWO}), ONE)
        self.assertEqual(put_in(plus(ONE, TWO), {}), plus(ONE, TWO))

    def test_names_that_the_dict_has_not(self):
        self.assertEqual(put_in(plus(name("a"), name("b")), {"b": ONE}), plus(name("a"), shut(ONE)))
        self.assertEqual(put_in(plus(name("a"), name("b")), {}), plus(name("a"), name("b")))

    def test_what_is_shut_is_not_gone_into(self):
        first = put_in(plus(name("a"), name("b")), {"a": ("pair", ONE, ONE)})
        second = put_in(first, {"a": TWO, "b": THREE})
        self.assertEqual(second, plus(shut(("pair", ONE, ONE)), shut(THREE)))
        let_a = let([("a", ONE)], name("a"))
        self.assertEqual(put_in(("pair", shut(let_a), name("a")), {"a": TWO}), ("pair", shut(let_a), shut(TWO)))
        self.assertEqual(put_in(shut(name("a")), {"a": TWO}), shut(name("a")))

    def test_a_shut_part_that_is_put_in_is_shut_again(self):
        self.assertEqual(put_in(name("a"), {"a": shut(ONE)}), shut(shut(ONE)))

    def test_it_is_the_very_part_and_no_copy(self):
        closed = ("pair", number(4), number(5))
        told = put_in(plus(name("a"), ("left", name("a"))), {"a": closed})
        self.assertIs(told[1][1], closed)
        self.assertIs(told[2][1][1], closed)
        told = put_in(let([("x", name("a"))], name("a")), {"a": closed})
        self.assertIs(told[1][0][1][1], closed)
        self.assertIs(told[2][1], closed)

    def test_again_and_again_at_no_cost(self):
        part = ONE
        for _ in range(5000):
            part = put_in(plus(name("a"), name("a")), {"a": part})
        self.assertIs(part[1][1], part[2][1])
        self.assertEqual(len(all_in(part)), 3)

    def test_what_was_told_may_be_put_in_however_deep(self):
        part = name("a")
        for _ in range(5000):
            part = ("left", part)
        told = put_in(part, {"a": PAIR})
        for _ in range(5000):
            told = told[1]
        self.assertEqual(told, shut(PAIR))

    def test_nothing_handed_in_is_changed(self):
        things = {"a": ONE, "c": PAIR}
        part = let([("x", name("a"))], plus(name("c"), name("x")))
        before = let([("x", name("a"))], plus(name("c"), name("x")))
        told = put_in(part, things)
        self.assertEqual((things, part), ({"a": ONE, "c": PAIR}, before))
        self.assertEqual(list(things), ["a", "c"])
        things["a"] = TWO
        self.assertEqual(told[1][0][1], shut(ONE))
        self.assertEqual(put_in(part, things)[1][0][1], shut(TWO))

    def test_in_bodies_of_many_programs(self):
        for program in [SAMPLE, *programs(0, 300)]:
            for _, names, body in program[0]:
                things = {x: plus(number(k), ONE) for k, x in enumerate(names)}
                self.assertEqual(put_in(body, things), put(body, things))
                self.assertEqual(put_in(body, {}), body)


class IsWorth(unittest.TestCase):
    def told(self, part, due):
        self.assertIs(is_worth(NONE, part), due, part)

    def test_numbers_and_pairs(self):
        for n in (0, 1, -1, GREATEST, -GREATEST):
            self.told(number(n), True)
        for one in (PAIR, ("pair", shut(ONE), give(ONE, ONE)), ("pair", plus(ONE, ONE), fun("none"))):
            self.told(one, True)

    def test_fun_parts_by_how_many_things_they_are_given(self):
        for f, wanted in WANTED.items():
            for many in range(8):
                self.told(gives(fun(f), *[ONE] * many), many < wanted)
                self.told(gives(fun(f), *[shut(PAIR)] * many), many < wanted)

    def test_each_function_by_its_own_names(self):
        for program in (((NONE[0][4], NONE[0][0]), ONE), ((NONE[0][0], NONE[0][4]), ONE)):
            self.assertEqual([is_worth(program, fun(f)) for f in ("none", "four")], [False, True])

    def test_functions_of_many_things_whatever_their_bodies_are(self):
        names = ("a", "b", "c", "d")
        for wanted in range(5):
            program = ((("f", names[:wanted], ONE), ("g", (), PAIR)), ONE)
            self.assertEqual([is_worth(program, gives(fun("f"), *[ONE] * many)) for many in range(6)],
                             [many < wanted for many in range(6)])

    def test_what_has_a_step_or_a_fault(self):
        for part, _ in STEPS + FAULTS:
            self.told(part, False)

    def test_shut_parts(self):
        for part in WORTHS:
            self.told(shut(part), False)
            self.told(shut(shut(part)), False)
            self.told(give(shut(part), ONE), False)
            self.told(give(give(shut(part), ONE), ONE), False)

    def test_lets(self):
        for part in WORTHS:
            self.told(let([("x", ONE)], part), False)
        self.told(give(let([("x", ONE)], fun("four")), ONE), False)

    def test_gives_of_what_is_no_function(self):
        for head in (ONE, PAIR, plus(ONE, ONE), ("when", ONE, fun("four"), fun("four")), ("left", PAIR)):
            self.told(give(head, ONE), False)
            self.told(give(give(head, ONE), ONE), False)

    def test_it_is_true_or_false_of_each_kind(self):
        for kind in KINDS_OF_TWO:
            self.told((kind, ONE, ONE), False)
        for kind in ("left", "right"):
            self.told((kind, PAIR), False)
        self.told(("when", ONE, ONE, ONE), False)

    def test_without_functions(self):
        self.assertIs(is_worth(((), ONE), ONE), True)
        self.assertIs(is_worth(((), ONE), give(ONE, ONE)), False)
        self.assertIs(is_worth(((), ONE), gives(ONE, *[ONE] * 300)), False)


class StepCase(unittest.TestCase):
    def steps(self, part, word, came, program=NONE):
        self.assertEqual(step(program, part), (word, came), part)

    def faults(self, part, word, program=NONE):
        self.assertEqual(step(program, part), ("fault", word), part)


class Steps(StepCase):
    def test_each_word_and_each_fault_alone(self):
        for part, (word, came) in STEPS:
            self.steps(part, word, came)
        for part, word in FAULTS:
            self.faults(part, word)

    def test_call_puts_the_things_in_for_the_names(self):
        self.steps(gives(fun("two"), ONE, PAIR), "call", ("pair", shut(PAIR), shut(ONE)))
        self.steps(gives(fun("three"), ONE, TWO, THREE), "call", plus(shut(THREE), less_of(shut(ONE), shut(TWO))))
        four = gives(fun("four"), ONE, TWO, THREE, PAIR)
        self.steps(four, "call", ("when", shut(ONE), shut(TWO), ("pair", shut(THREE), shut(PAIR))))

    def test_call_of_a_function_without_things(self):
        self.steps(fun("none"), "call", PAIR)
        self.steps(give(fun("none"), ONE), "call", give(PAIR, ONE))
        self.steps(("left", fun("none")), "call", ("left", PAIR))

    def test_things_are_not_looked_at_by_a_call(self):
        for part, _ in STEPS + FAULTS:
            self.steps(give(fun("one"), part), "call", shut(part))

    def test_the_very_things_are_put_in(self):
        thing = plus(ONE, number(41))
        told = step(NONE, give(fun("one"), thing))
        self.assertIs(told[1][1], thing)

    def test_more_things_than_are_wanted(self):
        self.steps(gives(fun("one"), ONE, TWO), "call", give(shut(ONE), TWO))
        self.steps(gives(fun("one"), fun("one"), TWO, THREE), "call", gives(shut(fun("one")), TWO, THREE))
        self.steps(gives(fun("two"), ONE, TWO, THREE), "call", give(("pair", shut(TWO), shut(ONE)), THREE))
        self.steps(gives(fun("none"), ONE, TWO), "call", gives(PAIR, ONE, TWO))

    def test_open_tells_the_very_part(self):
        closed = plus(ONE, PAIR)
        self.assertIs(step(NONE, shut(closed))[1], closed)
        self.steps(shut(shut(closed)), "open", shut(closed))
        self.steps(shut(PAIR), "open", PAIR)

    def test_let_of_rows_that_name_one_another_and_themselves(self):
        rows = (("x", ("pair", ONE, name("y"))), ("y", ("pair", name("y"), name("x"))))
        of_x, of_y = let(rows, rows[0][1]), let(rows, rows[1][1])
        self.steps(let(rows, name("x")), "let", shut(of_x))
        self.steps(let(rows, plus(name("y"), name("x"))), "let", plus(shut(of_y), shut(of_x)))
        self.steps(of_y, "let", ("pair", shut(of_y), shut(of_x)))
        self.steps(let([("x", name("x"))], name("x")), "let", shut(let([("x", name("x"))], name("x"))))

    def test_let_within_a_let(self):
        inner = let([("y", name("x"))], ("pair", name("x"), name("y")))
        outer = let([("x", ONE)], inner)
        of_x = let([("x", ONE)], ONE)
        self.steps(outer, "let", let([("y", shut(of_x))], ("pair", shut(of_x), name("y"))))
        self.steps(let([("x", inner_of("x"))], name("x")), "let", shut(let([("x", inner_of("x"))], inner_of("x"))))

    def test_let_of_four_rows(self):
        rows = tuple((x, number(k)) for k, x in enumerate("wxyz"))
        told = step(NONE, let(rows, gives(fun("four"), *[name(x) for x in "zyxw"])))
        due = [shut(let(rows, number(k))) for k in (3, 2, 1, 0)]
        self.assertEqual(told, ("let", gives(fun("four"), *due)))

    def test_let_whose_inner_part_is_a_worth_has_a_step(self):
        self.steps(let([("x", ONE)], ONE), "let", ONE)
        self.steps(let([("x", give(ONE, ONE))], PAIR), "let", PAIR)

    def test_give_steps_within_its_first_part_alone(self):
        self.steps(give(shut(fun("one")), plus(ONE, ONE)), "open", give(fun("one"), plus(ONE, ONE)))
        self.steps(gives(plus(ONE, ONE), ONE, TWO), "number", gives(TWO, ONE, TWO))
        self.faults(give(give(ONE, ONE), shut(ONE)), "function")
        self.faults(give(PAIR, shut(ONE)), "function")

    def test_the_faults_of_give(self):
        for many in range(1, 5):
            self.faults(gives(ONE, *[TWO] * many), "function")
            self.faults(gives(PAIR, *[TWO] * many), "function")

    def test_numbers(self):
        for a, b in itertools.product((0, 1, -1, 5, -7, 10 ** 29), repeat=2):
            self.steps(("plus", number(a), number(b)), "number", number(a + b))
            self.steps(("less", number(a), number(b)), "number", number(a - b))
            self.steps(("times", number(a), number(b)), "number", number(a * b))
            self.steps(("below", number(a), number(b)), "number", number(1 if a < b else 0))
        for kind in KINDS_OF_TWO:
            self.assertIs(type(step(NONE, (kind, ONE, TWO))[1][1]), int)

    def test_within_and_beyond_sixty_figures(self):
        just = [("plus", GREATEST - 1, 1), ("plus", 1 - GREATEST, -1), ("less", GREATEST - 1, -1),
                ("less", 1 - GREATEST, 1), ("times", 10 ** 59, 9), ("times", -(10 ** 59), 9),
                ("times", GREATEST, 1), ("times", GREATEST, -1), ("times", 10 ** 30, 10 ** 29),
                ("plus", GREATEST, -GREATEST), ("less", GREATEST, GREATEST), ("times", GREATEST, 0)]
        for kind, a, b in just:
            n = {"plus": a + b, "less": a - b, "times": a * b}[kind]
            self.assertLessEqual(abs(n), GREATEST)
            self.steps((kind, number(a), number(b)), "number", number(n))
        beyond = [("plus", GREATEST, 1), ("plus", 1, GREATEST), ("plus", -GREATEST, -1), ("less", GREATEST, -1),
                  ("less", -GREATEST, 1), ("less", -1, GREATEST), ("times", 10 ** 59, 10), ("times", 10 ** 30, 10 ** 30),
                  ("times", -(10 ** 30), 10 ** 30), ("times", GREATEST, GREATEST), ("times", GREATEST, -GREATEST),
                  ("times", -GREATEST, 2), ("plus", GREATEST, GREATEST), ("less", -GREATEST, GREATEST)]
        for kind, a, b in beyond:
            self.faults((kind, number(a), number(b)), "great")
        for a, b, n in ((GREATEST, -GREATEST, 0), (-GREATEST, GREATEST, 1), (GREATEST, GREATEST, 0)):
            self.steps(("below", number(a), number(b)), "number", number(n))

    def test_turn_by_whether_it_is_0(self):
        for n in (1, -1, 2, GREATEST, -GREATEST):
            self.steps(("when", number(n), PAIR, give(ONE, ONE)), "turn", PAIR)
        self.steps(("when", number(0), PAIR, give(ONE, ONE)), "turn", give(ONE, ONE))
        for worth in (PAIR, fun("one"), give(fun("four"), ONE)):
            self.faults(("when", worth, ONE, TWO), "number")

    def test_the_very_part_is_chosen(self):
        b, c = plus(ONE, number(50)), plus(ONE, number(60))
        self.assertIs(step(NONE, ("when", ONE, b, c))[1], b)
        self.assertIs(step(NONE, ("when", number(0), b, c))[1], c)
        self.assertIs(step(NONE, ("left", ("pair", b, c)))[1], b)
        self.assertIs(step(NONE, ("right", ("pair", b, c)))[1], c)

    def test_sides(self):
        self.steps(("left", ("pair", give(ONE, ONE), TWO)), "side", give(ONE, ONE))
        self.steps(("right", ("pair", give(ONE, ONE), TWO)), "side", TWO)
        for kind, worth in itertools.product(("left", "right"), (ONE, fun("one"), give(fun("four"), ONE))):
            self.faults((kind, worth), "pair")


class Within(StepCase):
    def around(self, part):
        """Each part around it in which its step is next, as (around, where it stands)."""
        later = give(ONE, ONE)
        found = [(give(part, later), 1), (("when", part, later, later), 1), (("left", part), 1), (("right", part), 1)]
        for kind in KINDS_OF_TWO:
            found.extend([((kind, part, later), 1), ((kind, ONE, part), 2)])
        return found

    def test_the_step_of_a_part_within_has_that_parts_word(self):
        for part, (word, came) in STEPS:
            for outer, at in self.around(part):
                self.steps(outer, word, outer[:at] + (came,) + outer[at + 1:])
                for outmost, where in self.around(outer):
                    whole = outer[:at] + (came,) + outer[at + 1:]
                    self.steps(outmost, word, outmost[:where] + (whole,) + outmost[where + 1:])

    def test_a_fault_within_is_the_parts_own(self):
        for part, word in FAULTS:
            for outer, _ in self.around(part):
                self.faults(outer, word)
                for outmost, _ in self.around(outer):
                    self.faults(outmost, word)

    def test_what_is_looked_at_first(self):
        for kind in KINDS_OF_TWO:
            # The first part's step, its fault, that it is no number; then the second's.
            self.steps((kind, shut(PAIR), shut(ONE)), "open", (kind, PAIR, shut(ONE)))
            self.faults((kind, PAIR, shut(ONE)), "number")
            self.faults((kind, PAIR, give(ONE, ONE)), "number")
            self.faults((kind, fun("one"), ("left", ONE)), "number")
            self.faults((kind, ("left", ONE), PAIR), "pair")
            self.faults((kind, ONE, ("left", ONE)), "pair")
            self.steps((kind, ONE, shut(PAIR)), "open", (kind, ONE, PAIR))
            self.faults((kind, ONE, PAIR), "number")
            self.faults((kind, number(GREATEST), PAIR), "number")

    def test_parts_that_are_not_looked_at(self):
        bad = give(ONE, ONE)
        self.steps(("when", ONE, ONE, bad), "turn", ONE)
        self.steps(("when", number(0), bad, ONE), "turn", ONE)
        self.steps(("left", ("pair", ONE, bad)), "side", ONE)
        self.steps(let([("x", bad)], ONE), "let", ONE)
        self.steps(shut(bad), "open", bad)

    def test_it_goes_into_fewer_things_than_wanted_nowhere(self):
        self.steps(give(gives(fun("four"), shut(ONE), shut(TWO), shut(THREE)), shut(PAIR)), "call",
                   ("when", shut(shut(ONE)), shut(shut(TWO)), ("pair", shut(shut(THREE)), shut(shut(PAIR)))))

    def test_step_by_step_in_many_programs(self):
        words = {}
        for program in programs(1000, 400):
            part = program[1]
            for _ in range(40):
                if is_worth(program, part):
                    break
                word, came = told = step(program, part)
                words[came if word == "fault" else word] = True
                self.assertEqual(told, due_step(program, part))
                self.assertEqual(step(program, part), told)
                if word == "fault":
                    break
                part = came
        due = ["call", "function", "great", "let", "number", "open", "pair", "side", "turn"]
        self.assertEqual(sorted(words), due)


class GreatParts(StepCase):
    def walk(self, program, many):
        part = program[1]
        for _ in range(many):
            word, part = step(program, part)
            self.assertNotEqual(word, "fault")
        return part

    def test_parts_that_grow_with_each_step(self):
        part = self.walk(((GROWS,), give(fun("grows"), ONE)), 2000)
        self.assertEqual(len(all_in(part)), 5)

    def test_sums_around_sums(self):
        part = self.walk(((WAITS,), give(fun("waits"), ONE)), 1000)
        for _ in range(1000):
            self.assertEqual(part[2], ONE)
            part = part[1]

    def test_gives_around_gives(self):
        body = gives(fun("none"), *[ONE] * 5)
        part = self.walk(((("none", (), body),), fun("none")), 400)
        for _ in range(2000):
            part = part[1]
        self.assertEqual(part, fun("none"))

    def test_what_was_told_may_be_handed_in_again(self):
        program = ((WAITS,), give(fun("waits"), ONE))
        part = self.walk(program, 700)
        self.assertIs(is_worth(program, part), False)
        self.assertEqual(led(program, part, 3), (("more",), ["call"] * 3))
        self.assertEqual(led(program, ("when", ONE, TWO, part), 5), (TWO, ["turn"]))

    def test_the_program_stays_as_it_is(self):
        program = asked_only(let([("x", plus(ONE, ONE))], name("x")))
        before = asked_only(let([("x", plus(ONE, ONE))], name("x")))
        self.walk(program, 3)
        self.assertEqual(program, before)


def less_of(a, b):
    return ("less", a, b)


def inner_of(x):
    return let([("z", name(x))], name("z"))
