"""Points 17 and 18: which rows are let by, of anything."""

import random
import unittest

from altered import changes
from endings import all_endings, drawn_rows, names_of
from lazywebs.looks import looked
from lazywebs.parts import all_in
from lazywebs.rowjudge import lets_by
from lazywebs.rows import all_rows, built_rows, lean_rows
from made import asked_only, plus, programs
from plainrows import HEAVY
from samples import ONE, SAMPLE, fun, give, let, name, number

TWO = number(2)
DO, DO_PAIR, BACK = ("do", "number"), ("do", "pair"), ("back",)
A, B, C = ("thing", 0), ("thing", 1), ("thing", 2)
a, b, c = name("a"), name("b"), name("c")


def of_body(body):
    return looked(((("none", (), ONE), ("f", ("a", "b", "c"), body)), ONE))


class JudgeCase(unittest.TestCase):
    def check(self, body, due, *steps):
        self.assertIs(lets_by(of_body(body), "f", (*steps, BACK)), due, (body, steps))

    def yes(self, body, *steps):
        self.check(body, True, *steps)

    def no(self, body, *steps):
        self.check(body, False, *steps)


class Right(JudgeCase):
    def test_built_and_lean_rows_of_every_function(self):
        for program in programs(30000, 400):
            for f in names_of(program):
                self.assertIs(lets_by(program, f, built_rows(program, f)), True)
                self.assertIs(lets_by(program, f, lean_rows(program, f)), True)
        for f in names_of(SAMPLE):
            self.assertIs(lets_by(SAMPLE, f, built_rows(SAMPLE, f)), True)
            self.assertIs(lets_by(SAMPLE, f, lean_rows(SAMPLE, f)), True)

    def test_endings_by_draws(self):
        turns = random.Random(3)
        between = 0
        for program in programs(31000, 400):
            for _ in range(3):
                rows = drawn_rows(program, turns)
                for f, own in zip(names_of(program), rows):
                    self.assertIs(lets_by(program, f, own), True)
                    between += own not in (built_rows(program, f), lean_rows(program, f))
        self.assertGreater(between, 300)

    def test_all_endings_of_a_body(self):
        bodies = [
            ("when", plus(a, b), ("left", ("right", c)), ("less", plus(a, ONE), b)),
            ("left", ("when", ("below", a, b), plus(a, b), ("right", c))),
            let([("x", plus(a, b)), ("y", ("left", a))], ("times", ("left", name("x")), let([("z", a)], plus(a, name("z"))))),
            ("when", ("left", plus(a, b)), let([("x", plus(a, b))], plus(name("x"), a)), ("pair", plus(a, b), c)),
            give(plus(a, b), ("left", c)),
        ]
        for body, many in zip(bodies, (1 + 2 * 3 * 3, None, None, None, 1)):
            rows = all_endings(of_body(body), "f")
            if many is not None:
                self.assertEqual(len(set(rows)), many)
            for own in rows:
                self.assertIs(lets_by(of_body(body), "f", own), True)

    def test_the_greatest_bodies(self):
        def balanced(kind, many):
            ahead = (many - 1) // 2 - (1 - (many - 1) // 2 % 2)
            return ONE if many == 1 else (kind, balanced(kind, ahead), balanced(kind, many - 1 - ahead))

        deep = ONE
        for _ in range(11):
            deep = ("when", deep, ONE, TWO)
        for body in (balanced("plus", 59), balanced("pair", 59), deep):
            program = asked_only(body)
            for rows in (built_rows(program, ""), lean_rows(program, "")):
                self.assertIs(lets_by(program, "", rows), True)
                self.assertIs(lets_by(program, "", rows[1:]), False)
                self.assertIs(lets_by(program, "", rows + (BACK,)), False)


class Wants(JudgeCase):
    def test_either_want_behind_sums(self):
        for kind in ("plus", "less", "times", "below"):
            now = (A, DO, B, DO, ("now", kind))
            self.yes(("left", (kind, a, b)), *now, DO_PAIR, ("side", "left"))
            self.no(("left", (kind, a, b)), *now, ("side", "left"))
            self.no(("left", (kind, a, b)), *now, DO, ("side", "left"))
            self.no(("left", (kind, a, b)), *now, DO_PAIR, DO_PAIR, ("side", "left"))
            self.yes(plus((kind, a, b), c), *now, C, DO, ("now", "plus"))
            self.no(plus((kind, a, b), c), *now, DO, C, DO, ("now", "plus"))
            self.no(plus((kind, a, b), c), *now, DO_PAIR, C, DO, ("now", "plus"))
            self.yes((kind, a, b), *now)
            self.no((kind, a, b), *now, DO)
            self.no((kind, a, b), *now, DO_PAIR)
            self.yes(plus((kind, a, b), c), A, B, (kind,), DO, C, DO, ("now", "plus"))
            self.yes(("left", (kind, a, b)), A, B, (kind,), DO_PAIR, ("side", "left"))
            self.no(("left", (kind, a, b)), A, B, (kind,), DO, ("side", "left"))
            self.no((kind, a, b), A, DO_PAIR, B, DO, ("now", kind))
            self.no((kind, a, b), A, DO, B, DO_PAIR, ("now", kind))
            self.no((kind, a, b), A, B, DO, ("now", kind))

    def test_either_want_behind_sides(self):
        for kind in ("left", "right"):
            side = (A, DO_PAIR, ("side", kind))
            self.yes((kind, a), *side)
            self.no((kind, a), *side, DO)
            self.no((kind, a), *side, DO_PAIR)
            self.no((kind, a), A, DO, ("side", kind))
            self.no((kind, a), A, ("side", kind))
            self.yes(plus((kind, a), c), *side, DO, C, DO, ("now", "plus"))
            self.no(plus((kind, a), c), *side, C, DO, ("now", "plus"))
            self.no(plus((kind, a), c), *side, DO_PAIR, C, DO, ("now", "plus"))
            self.yes(("left", (kind, a)), *side, DO_PAIR, ("side", "left"))
            self.no(("left", (kind, a)), *side, DO, ("side", "left"))
            self.no(("left", (kind, a)), *side, ("side", "left"))

    def test_turns_by_either_want(self):
        body = ("when", a, b, plus(b, c))
        now = (B, DO, C, DO, ("now", "plus"))
        self.yes(body, A, DO, ("turn", (B,), now))
        self.yes(body, A, DO, ("turn", (B,), (B, C, ("plus",))))
        self.no(body, A, DO, ("turn", (B, DO), now))
        self.no(body, A, ("turn", (B,), now))
        self.no(body, A, DO_PAIR, ("turn", (B,), now))
        self.no(body, A, DO, ("turn", now, (B,)))
        self.yes(plus(body, c), A, DO, ("turn", (B, DO), now), C, DO, ("now", "plus"))
        self.no(plus(body, c), A, DO, ("turn", (B,), now), C, DO, ("now", "plus"))
        self.no(plus(body, c), A, DO, ("turn", (B, DO), now), DO, C, DO, ("now", "plus"))
        self.yes(("left", body), A, DO, ("turn", (B, DO_PAIR), (*now, DO_PAIR)), ("side", "left"))
        self.no(("left", body), A, DO, ("turn", (B, DO_PAIR), now), ("side", "left"))
        self.no(("left", body), A, DO, ("turn", (B, DO_PAIR), (*now, DO_PAIR)), DO_PAIR, ("side", "left"))

    def test_what_waits_is_built_alone(self):
        self.yes(("pair", plus(a, b), c), A, B, ("plus",), C, ("pair",))
        self.no(("pair", plus(a, b), c), A, DO, B, DO, ("now", "plus"), C, ("pair",))
        self.no(give(plus(a, b), c), A, DO, B, DO, ("now", "plus"), C, ("give",))
        body = let([("x", plus(a, b))], name("x"))
        self.yes(body, ("room", 0, 1), A, B, ("plus",), ("tie", 0), ("local", 0))
        self.no(body, ("room", 0, 1), A, DO, B, DO, ("now", "plus"), ("tie", 0), ("local", 0))
        self.no(body, ("room", 0, 1), A, B, ("plus",), ("tie", 0), ("local", 0), DO)
        self.no(a, A, DO)
        self.no(fun("none"), fun("none"), DO)

    def test_back_stands_last_and_once(self):
        program = of_body(a)
        for rows in ((A,), (A, BACK, BACK), (BACK, A), (BACK,), (), (A, ("back", 0)), (A, "back"), (A, ["back"])):
            self.assertIs(lets_by(program, "f", rows), False)
        self.assertIs(lets_by(of_body(("when", a, b, c)), "f", (A, DO, ("turn", (B, BACK), (C, BACK)), BACK)), False)
        self.assertIs(lets_by(of_body(("when", a, b, c)), "f", (A, DO, ("turn", (B, BACK), (C, BACK)))), False)


class Wrong(JudgeCase):
    def test_rows_with_any_one_thing_changed(self):
        counts = {True: 0, False: 0}
        for program in programs(32000, 60):
            for f in names_of(program):
                body = dict((own, part) for own, _, part in [*program[0], ("", (), program[1])])[f]
                if sum(part[0] in HEAVY for part in all_in(body)) > 5:
                    continue
                # By their writing: there 1 isn't True, and a list is no tuple.
                right = {repr(own) for own in all_endings(program, f)}
                for rows in {built_rows(program, f), lean_rows(program, f)}:
                    for changed in changes(rows):
                        due = repr(changed) in right
                        self.assertIs(lets_by(program, f, changed), due, changed)
                        counts[due] += 1
        self.assertGreater(counts[False], 20000)

    def test_rows_that_are_cut(self):
        for program in programs(34000, 200):
            for f in names_of(program):
                for rows in (built_rows(program, f), lean_rows(program, f)):
                    for at in range(len(rows)):
                        self.assertIs(lets_by(program, f, rows[:at]), False)
                        self.assertIs(lets_by(program, f, rows[at + 1:]), False)
                        # A turn cut within, and what stands behind it left out.
                        if rows[at][0] == "turn":
                            for cut in range(len(rows[at][1])):
                                turn = ("turn", rows[at][1][:cut], rows[at][2])
                                self.assertIs(lets_by(program, f, rows[:at] + (turn,)), False)
                                self.assertIs(lets_by(program, f, rows[:at] + (turn,) + rows[at + 1:]), False)

    def test_changes_within_the_rows_of_a_turn(self):
        body = ("when", plus(a, b), ("left", ("pair", a, ONE)), let([("x", fun("none"))], give(name("x"), number(-3))))
        program = of_body(body)
        right = {repr(own) for own in all_endings(program, "f")}
        turned = 0
        for rows in all_endings(program, "f"):
            for changed in changes(rows):
                self.assertIs(lets_by(program, "f", changed), repr(changed) in right, changed)
                turned += 1
        self.assertGreater(turned, 3000)

    def test_rows_of_another_function(self):
        for program in programs(33000, 100):
            rows = dict(zip(names_of(program), all_rows(program, True)))
            for f in rows:
                right = set(all_endings(program, f)) if len(rows[f]) < 12 else {built_rows(program, f), rows[f]}
                for g in rows:
                    if len(rows[f]) < 12 or rows[g] in right:
                        self.assertIs(lets_by(program, f, rows[g]), rows[g] in right)

    def test_truths_and_numbers_of_other_kinds(self):
        self.yes(ONE, number(1))
        self.no(ONE, ("number", True))
        self.no(number(0), ("number", False))
        self.no(ONE, ("number", "1"))
        self.no(ONE, ["number", 1])
        self.no(b, ("thing", True))
        self.no(a, ("thing", False))
        self.no(a, ("local", 0))
        body = let([("x", ONE)], name("x"))
        for room in (("room", False, 1), ("room", 0, True), ("room", 0, 2), ("room", 1, 1), ("room", 0)):
            self.no(body, room, ONE, ("tie", 0), ("local", 0))
        self.no(body, ("room", 0, 1), ONE, ("tie", False), ("local", 0))
        self.no(body, ("room", 0, 1), ONE, ("tie", 0), ("local", False))

    def test_turns_of_other_kinds(self):
        body = ("when", a, b, c)
        self.yes(body, A, DO, ("turn", (B,), (C,)))
        for turn in (("turn", [B], (C,)), ("turn", (B,), [C]), ["turn", (B,), (C,)], ("turn", (B,)), ("turn", (), (C,)),
                     ("turn", (B,), ()), ("turn", B, C), ("turn", (C,), (B,)), ("turn", (B, B), (C,)), ("turn", None, (C,)),
                     ("turn", (B,), (C,), ()), (("turn",), (B,), (C,)), ("turns", (B,), (C,)), (0, (B,), (C,)),
                     ("turn", "B", "C"), (True, (B,), (C,)), (), "turn", None, 7):
            self.no(body, A, DO, turn)
        self.no(body, A, DO)
        self.no(body, A)


class Anything(unittest.TestCase):
    def test_single_things(self):
        for thing in (None, True, False, 0, 1, -1, 10 ** 300, "", "rows", "back", [], (), [BACK], ((),), (None,), (0,),
                      ("number", 1), ("back",), [("number", 1), BACK], (ONE, [("back",)]), (ONE, (("back",),))):
            for f in names_of(SAMPLE):
                self.assertIs(lets_by(SAMPLE, f, thing), False, thing)

    def test_nested_things(self):
        for make in (lambda inner: (inner,), lambda inner: [inner], lambda inner: ("turn", inner, inner),
                     lambda inner: (inner, BACK), lambda inner: ("number", inner), lambda inner: (A, DO, inner)):
            thing = ()
            for _ in range(29):
                thing = make(thing)
                for f in names_of(SAMPLE):
                    self.assertIs(lets_by(SAMPLE, f, thing), False)
                self.assertIs(lets_by(of_body(("when", a, b, c)), "f", (A, DO, thing, BACK)), False)

    def test_one_thing_held_very_often(self):
        body = ("when", a, ("when", a, ("when", a, b, c), c), ("when", a, b, c))
        thing = (A, DO, ("turn", (B,), (C,)))
        for _ in range(25):
            thing = (A, DO, ("turn", thing, thing))
        self.assertIs(lets_by(of_body(body), "f", (*thing, BACK)), False)
        self.assertIs(lets_by(of_body(a), "f", (A,) * 39990 + (BACK,)), False)
        self.assertIs(lets_by(of_body(a), "f", (thing,) * 39990), False)
        row = (B,) * 9000
        self.assertIs(lets_by(of_body(("when", a, b, c)), "f", (A, DO, ("turn", row, row), BACK)), False)

    def test_the_thing_and_the_program_stay(self):
        program = of_body(("when", a, b, c))
        thing = [A, DO, ["turn", [B], [C]], BACK]
        lets_by(program, "f", thing)
        self.assertEqual(thing, [A, DO, ["turn", [B], [C]], BACK])
        rows = lean_rows(program, "f")
        self.assertEqual([lets_by(program, "f", rows) for _ in range(3)], [True] * 3)
        self.assertEqual(program, of_body(("when", a, b, c)))

    def test_locals_and_names_by_their_numbers(self):
        program = looked((((("f", ("a",), let([("x", a), ("y", let([("z", ONE)], name("z")))], let([("w", a)], name("y")))),)), ONE))
        right = (("room", 0, 2), A, ("tie", 0), ("room", 2, 1), ONE, ("tie", 2), ("local", 2), ("tie", 1),
                 ("room", 3, 1), A, ("tie", 3), ("local", 1), BACK)
        self.assertIs(lets_by(program, "f", right), True)
        for at, step in enumerate(right):
            for other in (("local", 0), ("local", 1), ("tie", 2), ("tie", 3), ("room", 0, 1), ("room", 1, 1), ("thing", 1)):
                if other != step:
                    self.assertIs(lets_by(program, "f", right[:at] + (other,) + right[at + 1:]), False)
