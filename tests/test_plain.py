"""Point 10: what a part leads to by plain putting in, and by which steps."""

import time
import unittest

from lazywebs.looks import looked
from lazywebs.plain import led, plain_told
from made import FAULTS, GROWS, WAITS, asked_only, counting, gives, less, numbers_from, plus, programs
from plainsteps import due_told
from samples import ONE, SAMPLE, fun, give, let, name, number

TWO, THREE = number(2), number(3)
MORE = ("more",)
# An asked part with all six words, and what it leads to.
TWICE = ("twice", ("a",), plus(name("a"), name("a")))
LONG = (
    (TWICE,),
    ("when", ("below", ONE, TWO), ("left", let([("x", give(fun("twice"), THREE))], ("pair", name("x"), ONE))), ONE),
)
LONG_WORDS = ["number", "turn", "let", "side", "open", "let", "call", "open", "open", "number"]


def of_steps(many):
    """A part of just so many steps, to 1."""
    part = ONE
    for _ in range(many):
        part = ("when", ONE, part, ONE)
    return part


class Led(unittest.TestCase):
    def test_worths_without_a_step(self):
        program = looked((SAMPLE[0], ONE))
        cases = [(number(-5), number(-5)), (("pair", give(ONE, ONE), ONE), ("pair",)),
                 (fun("one"), ("function", "one", 0)), (fun("three"), ("function", "three", 0)),
                 (give(fun("three"), give(ONE, ONE)), ("function", "three", 1)),
                 (gives(fun("three"), ONE, TWO), ("function", "three", 2))]
        for part, told in cases:
            for most in (0, 1, 400):
                self.assertEqual(led(program, part, most), (told, []))

    def test_faults_without_a_step(self):
        for part, word in FAULTS:
            for most in (0, 1, 400):
                self.assertEqual(led(((), ONE), part, most), (("fault", word), []))

    def test_all_words_in_their_order(self):
        self.assertEqual(led(((), ONE), plus(plus(ONE, ONE), plus(ONE, ONE)), 400), (number(4), ["number"] * 3))
        told, words = led(LONG, LONG[1], 400)
        self.assertEqual((told, words), (due_told(LONG, LONG[1], 0, 400)))
        self.assertEqual(told, number(6))
        self.assertEqual(sorted(set(words)), ["call", "let", "number", "open", "side", "turn"])
        self.assertEqual(words[:len(LONG_WORDS) - 1], LONG_WORDS[:-1])

    def test_each_bound(self):
        _, words = led(LONG, LONG[1], 400)
        for most in range(len(words)):
            self.assertEqual(led(LONG, LONG[1], most), (MORE, words[:most]))
        for most in (len(words), len(words) + 1, 400):
            self.assertEqual(led(LONG, LONG[1], most), (number(6), words))

    def test_a_bound_of_none(self):
        self.assertEqual(led(((), ONE), of_steps(1), 0), (MORE, []))
        self.assertEqual(led(((), ONE), ONE, 0), (ONE, []))

    def test_just_as_many_as_are_needed(self):
        for many in (1, 2, 60, 399, 400):
            part = of_steps(many)
            self.assertEqual(led(((), ONE), part, many - 1), (MORE, ["turn"] * (many - 1)))
            self.assertEqual(led(((), ONE), part, many), (ONE, ["turn"] * many))

    def test_a_fault_is_no_step(self):
        for part, word in FAULTS:
            part = ("when", ONE, ("when", ONE, part, ONE), ONE)
            self.assertEqual(led(((), ONE), part, 1), (MORE, ["turn"]))
            self.assertEqual(led(((), ONE), part, 2), (("fault", word), ["turn", "turn"]))
            self.assertEqual(led(((), ONE), plus(part, give(ONE, ONE)), 2), (("fault", word), ["turn", "turn"]))

    def test_a_function_with_more_things(self):
        program = looked(((("first", ("a", "b"), name("a")),), ONE))
        part = gives(fun("first"), fun("first"), ONE, TWO)
        self.assertEqual(led(program, part, 400), (("function", "first", 1), ["call", "open"]))
        self.assertEqual(led(program, give(part, THREE), 400), (TWO, ["call", "open", "call", "open"]))

    def test_a_function_without_things(self):
        program = looked(((("one", (), ONE), ("loop", (), fun("loop"))), ONE))
        self.assertEqual(led(program, plus(fun("one"), fun("one")), 400), (TWO, ["call", "call", "number"]))
        self.assertEqual(led(program, fun("loop"), 400), (MORE, ["call"] * 400))
        self.assertEqual(led(program, give(fun("one"), ONE), 1), (("fault", "function"), ["call"]))

    def test_endless_lets(self):
        self.assertEqual(led(((), ONE), let([("x", name("x"))], name("x")), 7), (MORE, ["let"] + ["open", "let"] * 3))
        told, words = led(((), ONE), let([("x", name("y")), ("y", name("x"))], plus(name("x"), ONE)), 400)
        self.assertEqual((told, len(words)), (MORE, 400))

    def test_what_is_shut_is_done_each_time_anew(self):
        part = give(fun("twice"), plus(ONE, ONE))
        self.assertEqual(led(LONG, part, 400), (number(4), ["call", "open", "number", "open", "number", "number"]))

    def test_the_list_is_the_askers_own(self):
        first = led(LONG, LONG[1], 400)
        second = led(LONG, LONG[1], 400)
        self.assertIsNot(first[1], second[1])
        first[1].append("more")
        first[1][0] = "other"
        self.assertEqual(led(LONG, LONG[1], 400), second)

    def test_kinds_of_what_is_told(self):
        told = led(LONG, LONG[1], 5)
        self.assertIs(type(told), tuple)
        self.assertIs(type(told[1]), list)

    def test_parts_that_grow_with_every_step_are_gone_on_with_in_a_moment(self):
        began = time.perf_counter()
        for function, f, word in ((GROWS, "grows", "call"), (WAITS, "waits", "call")):
            self.assertEqual(led(((function,), ONE), give(fun(f), ONE), 400), (MORE, [word] * 400))
        nested = fun("nest")
        for _ in range(11):
            nested = plus(nested, ONE)
        self.assertEqual(led(((("nest", (), nested),), ONE), fun("nest"), 400), (MORE, ["call"] * 400))
        given = gives(fun("gives"), *[ONE] * 11)
        self.assertEqual(led(((("gives", (), given),), ONE), fun("gives"), 400), (MORE, ["call"] * 400))
        self.assertLess(time.perf_counter() - began, 5)

    def test_sums_within_sums_come_back_from_deep(self):
        part = ("when", ONE, number(0), ONE)
        for _ in range(199):
            part = plus(part, ONE)
        self.assertEqual(led(((), ONE), part, 400), (number(199), ["turn"] + ["number"] * 199))

    def test_calls_within_sums_within_sums(self):
        told, words = led(counting(10), give(fun("count"), number(10)), 400)
        self.assertEqual((told, words), due_told(counting(10), give(fun("count"), number(10)), 0, 400))
        self.assertEqual((told, words.count("call")), (number(10), 11))
        for body in (plus(fun("sums"), ONE), plus(plus(fun("sums"), ONE), ONE), less(plus(fun("sums"), ONE), TWO)):
            self.assertEqual(led(((("sums", (), body),), ONE), fun("sums"), 400), (MORE, ["call"] * 400))

    def test_many_programs(self):
        found = {}
        for program in programs(2000, 500):
            for most in (0, 1, 5, 60):
                told, words = led(program, program[1], most)
                self.assertEqual((told, words), due_told(program, program[1], 0, most))
                found[told[0]] = True
        self.assertEqual(sorted(found), ["fault", "function", "more", "number", "pair"])


class PlainTold(unittest.TestCase):
    def test_depths_of_pairs_within_pairs(self):
        part = ("pair", ("pair", ONE, ("pair", TWO, ("pair", ONE, ("pair", ONE, ONE)))), ("pair", TWO, TWO))
        program = asked_only(part)
        self.assertEqual(plain_told(program, 0, 0), ("pair",))
        self.assertEqual(plain_told(program, 1, 0), ("pair", ("pair",), ("pair",)))
        self.assertEqual(plain_told(program, 2, 0), ("pair", ("pair", ONE, ("pair",)), ("pair", TWO, TWO)))
        third = ("pair", ("pair", ONE, ("pair", TWO, ("pair",))), ("pair", TWO, TWO))
        self.assertEqual(plain_told(program, 3, 0), third)
        fourth = ("pair", ("pair", ONE, ("pair", TWO, ("pair", ONE, ("pair",)))), ("pair", TWO, TWO))
        self.assertEqual(plain_told(program, 4, 0), fourth)

    def test_what_is_no_pair_is_told_alike_at_all_depths(self):
        for deep in range(5):
            self.assertEqual(plain_told(asked_only(plus(ONE, ONE)), deep, 1), TWO)
            self.assertEqual(plain_told(looked((SAMPLE[0], give(fun("two"), ONE))), deep, 0), ("function", "two", 1))
            self.assertEqual(plain_told(asked_only(plus(ONE, ONE)), deep, 0), MORE)
            for part, word in FAULTS:
                self.assertEqual(plain_told(asked_only(part), deep, 0), ("fault", word))

    def test_each_side_by_itself_by_as_many_steps(self):
        two_steps = plus(plus(ONE, ONE), ONE)
        program = asked_only(("when", ONE, ("pair", two_steps, ("pair", two_steps, plus(ONE, ONE))), ONE))
        self.assertEqual(plain_told(program, 2, 2), ("pair", THREE, ("pair", THREE, TWO)))
        self.assertEqual(plain_told(program, 2, 1), ("pair", MORE, ("pair", MORE, TWO)))
        self.assertEqual(plain_told(program, 2, 0), MORE)
        self.assertEqual(plain_told(program, 0, 1), ("pair",))

    def test_faults_functions_and_more_in_the_places_of_sides(self):
        for part, word in FAULTS:
            self.assertEqual(plain_told(asked_only(("pair", part, ONE)), 1, 0), ("pair", ("fault", word), ONE))
            self.assertEqual(plain_told(asked_only(("pair", ONE, part)), 4, 0), ("pair", ONE, ("fault", word)))
            self.assertEqual(plain_told(asked_only(("pair", part, part)), 0, 0), ("pair",))
        endless = let([("x", name("x"))], name("x"))
        self.assertEqual(plain_told(asked_only(("pair", endless, ONE)), 1, 400), ("pair", MORE, ONE))
        program = looked((SAMPLE[0], ("pair", fun("one"), give(fun("two"), ONE))))
        self.assertEqual(plain_told(program, 1, 0), ("pair", ("function", "one", 0), ("function", "two", 1)))

    def test_endless_lists(self):
        due = [("pair",)]
        for first in (6, 5, 4, 3):
            due.append(("pair", number(first), due[-1]))
        self.assertEqual(plain_told(numbers_from(3), 4, 400), due[-1])
        self.assertEqual(plain_told(numbers_from(3), 0, 1), ("pair",))
        self.assertEqual(plain_told(numbers_from(3), 0, 0), MORE)
        self.assertEqual(plain_told(numbers_from(3), 1, 1), ("pair", THREE, ("pair",)))
        self.assertEqual(plain_told(numbers_from(3), 2, 1), ("pair", THREE, ("pair", MORE, ("pair",))))
        ones = asked_only(let([("x", ("pair", ONE, name("x")))], name("x")))
        self.assertEqual(plain_told(ones, 3, 3), ("pair", ONE, ("pair", ONE, ("pair", ONE, ("pair",)))))

    def test_it_is_of_what_is_asked(self):
        program = looked((((("f", (), ONE)), ("g", ("a",), TWO)), give(fun("g"), fun("f"))))
        self.assertEqual(plain_told(program, 0, 1), TWO)

    def test_the_same_is_told_again(self):
        program = numbers_from(3)
        first = plain_told(program, 4, 400)
        led(program, program[1], 3)
        self.assertEqual(plain_told(program, 4, 400), first)
        self.assertEqual(program, numbers_from(3))

    def test_subtraction_down_to_nought(self):
        self.assertEqual(plain_told(counting(4), 0, 400), number(4))
        self.assertEqual(plain_told(asked_only(less(ONE, THREE)), 0, 1), number(-2))

    def test_many_programs(self):
        for program in programs(3000, 300):
            for deep, most in ((0, 10), (1, 0), (2, 30), (4, 12)):
                told = plain_told(program, deep, most)
                self.assertEqual(told, due_told(program, program[1], deep, most)[0])
