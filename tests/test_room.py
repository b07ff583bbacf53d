"""Point 24: the least room."""

import random
import time
import unittest

from endings import drawn_rows
from lazywebs.errors import NoRows
from lazywebs.looks import looked
from lazywebs.machine import Machine
from lazywebs.room import least_room
from lazywebs.rows import all_rows
from made import COUNT, FAULTS, FROM, GROWS, WAITS, Maker, asked_only, counting, gives, less, numbers_from, plus, programs
from plaincells import PlainCells
from samples import ONE, SAMPLE, fun, give, let, name, number

ROOM = ("room",)
TWO, FOUR = number(2), number(4)
NONE = ("none", (), plus(ONE, TWO))


def has_room(told):
    return told == ROOM or any(has_room(one) for one in told if isinstance(one, tuple))


def told_in(program, rows, room, deep, most):
    return Machine(program, rows, room, []).told(deep, most)


class Noting(PlainCells):
    """Notes how many cells each sweep keeps."""

    def __init__(self, *things):
        super().__init__(*things)
        self.kept = []

    def sweep(self):
        taken = super().sweep()
        self.kept.append(len(self.all))
        return taken


def by_words(program, rows, deep, most):
    """One more than the most cells that are kept ahead of any making."""
    machine = Noting(program, rows, 10 ** 6, range(1, 3000))
    machine.told(deep, most)
    return 1 + max(machine.kept) if machine.kept else len(machine.whole)


def behind_lets(many):
    """A function that calls itself behind a let of so many rows, which are never asked for."""
    rows = [(x, ("pair", plus(name("n"), ONE), plus(name("n"), TWO))) for x in "wxyz"[:many]]
    body = ("when", name("n"), let(rows, plus(give(fun("f"), less(name("n"), ONE)), ONE)), number(0))
    return ("f", ("n",), body)


class RoomCase(unittest.TestCase):
    def check(self, program, rows, deep, most):
        """That it is enough, and that one less isn't."""
        least = least_room(program, rows, deep, most)
        self.assertIs(type(least), int)
        self.assertFalse(has_room(told_in(program, rows, least, deep, most)), program)
        self.assertTrue(has_room(told_in(program, rows, least - 1, deep, most)), program)
        return least


class Least(RoomCase):
    def test_by_hand(self):
        for part, built, lean in [
            (ONE, 2, 2), (plus(ONE, TWO), 4, 4), (plus(plus(ONE, TWO), FOUR), 6, 4), (plus(FOUR, plus(ONE, TWO)), 6, 5),
            (("pair", ONE, TWO), 4, 4), (("left", ("pair", ONE, TWO)), 5, 4), (("when", ONE, TWO, FOUR), 5, 2),
            (let([("x", ONE)], TWO), 3, 3), (let([("x", name("x"))], name("x")), 2, 2),
        ]:
            program = asked_only(part)
            self.assertEqual(self.check(program, all_rows(program, False), 0, 0), built, part)
            self.assertEqual(self.check(program, all_rows(program, True), 0, 0), lean, part)

    def test_the_cells_at_first_are_enough_where_none_is_made(self):
        program = looked(((("f", (), fun("g")), ("g", (), fun("f")), ("id", ("a",), name("a"))), fun("f")))
        for lean in (True, False):
            for deep in range(5):
                self.assertEqual(self.check(program, all_rows(program, lean), deep, 400), 3)
                self.assertEqual(self.check(program, all_rows(program, lean), deep, 0), 3)
        # A making wants one more.
        program = looked(((("f", (), fun("g")), ("g", (), ONE)), fun("f")))
        self.assertEqual(self.check(program, all_rows(program, True), 0, 0), 3)
        self.assertEqual(self.check(program, all_rows(program, True), 0, 400), 4)

    def test_each_of_what_may_be_told(self):
        for program in (counting(5), numbers_from(2), SAMPLE, looked(((GROWS,), give(fun("grows"), ONE))),
                        looked(((WAITS,), give(fun("waits"), ONE))), looked(((COUNT,), fun("count"))),
                        looked(((("wait", (), plus(fun("wait"), ONE)),), ("pair", fun("wait"), ONE))),
                        *[asked_only(part) for part, _ in FAULTS]):
            for lean in (True, False):
                rows = all_rows(program, lean)
                for deep in range(5):
                    for most in (0, 1, 3, 30):
                        least = self.check(program, rows, deep, most)
                        if most < 30:
                            self.assertEqual(least, by_words(program, rows, deep, most))

    def test_many_programs(self):
        for seed in range(70000, 70700):
            program, turns = Maker(seed).program(), random.Random(seed)
            for rows in (all_rows(program, True), all_rows(program, False), drawn_rows(program, turns)):
                self.check(program, rows, turns.randrange(5), turns.choice((0, 2, 5, 40)))

    def test_it_is_one_more_than_the_most_that_are_kept_ahead_of_any_making(self):
        for seed in range(71000, 71250):
            program, turns = Maker(seed).program(), random.Random(seed)
            rows = turns.choice((all_rows(program, True), all_rows(program, False), drawn_rows(program, turns)))
            deep, most = turns.randrange(5), turns.choice((0, 2, 9))
            self.assertEqual(least_room(program, rows, deep, most), by_words(program, rows, deep, most), seed)

    def test_names_that_are_the_same_round_a_ring(self):
        rings = [[("x", name("x"))], [("x", name("y")), ("y", name("x"))], [("x", name("y")), ("y", name("z")), ("z", name("x"))],
                 [("w", name("x")), ("x", name("y")), ("y", name("z")), ("z", name("y"))]]
        for rows_of_let in rings:
            for inner in (name("x"), plus(ONE, plus(ONE, TWO)), ("pair", name("x"), ("pair", name("x"), ONE)), give(fun("f"), name("x")),
                          gives(fun("g"), ONE, name("x")), ("pair", plus(ONE, gives(fun("g"), TWO, name("x"))), fun("none"))):
                program = looked(((NONE, ("f", ("a",), plus(ONE, plus(TWO, name("a")))), ("g", ("a", "b"), plus(name("a"), FOUR))),
                                  let(rows_of_let, inner)))
                for lean in (True, False):
                    for deep in (0, 1, 3):
                        rows = all_rows(program, lean)
                        self.assertEqual(self.check(program, rows, deep, 40), by_words(program, rows, deep, 40))

    def test_a_ring_that_is_no_more_come_to(self):
        ring = [("p", name("q")), ("q", name("p"))]
        functions = (("f", ("a",), let(ring, ("when", name("a"), give(fun("f"), less(name("a"), ONE)), ("pair", name("p"), ONE)))),)
        program = looked((functions, ("pair", give(fun("f"), number(6)), give(fun("f"), FOUR))))
        for lean in (True, False):
            for deep in (0, 1, 2, 3):
                rows = all_rows(program, lean)
                self.assertEqual(self.check(program, rows, deep, 40), by_words(program, rows, deep, 40))

    def test_a_room_that_is_more_than_enough_tells_the_same(self):
        for program in programs(72000, 150) + [counting(9), numbers_from(3)]:
            rows = all_rows(program, True)
            least = least_room(program, rows, 2, 30)
            due = Machine(program, rows, 4000, [])
            told = due.told(2, 30)
            for more in (0, 1, 2, 5, 60):
                machine = Machine(program, rows, least + more, [])
                self.assertEqual((machine.told(2, 30), machine.calls(), machine.made()), (told, due.calls(), due.made()))


class Bounds(RoomCase):
    def test_none_where_4000_is_too_little(self):
        program = looked(((behind_lets(4),), give(fun("f"), number(390))))
        for lean in (True, False):
            rows = all_rows(program, lean)
            least = least_room(program, rows, 0, 400)
            if lean:
                self.assertIsNone(least)
                self.assertEqual(told_in(program, rows, 4000, 0, 400), ROOM)
                self.assertIsNone(least_room(program, rows, 4, 400))
            else:
                self.check(program, rows, 0, 400)

    def test_about_4000(self):
        found = {}
        for n in range(80, 400, 8):
            program = looked(((behind_lets(4),), give(fun("f"), number(n))))
            rows = all_rows(program, True)
            least = least_room(program, rows, 0, 400)
            found[least is None] = n
            self.assertEqual(has_room(told_in(program, rows, 4000, 0, 400)), least is None)
            if least is not None:
                self.assertLessEqual(least, 4000)
        self.assertEqual(sorted(found), [False, True])
        for n in range(found[False], found[False] + 9):
            program = looked(((behind_lets(4),), give(fun("f"), number(n))))
            rows = all_rows(program, True)
            self.assertEqual(has_room(told_in(program, rows, 4000, 0, 400)), least_room(program, rows, 0, 400) is None)

    def test_just_4000(self):
        # Each call keeps 23 cells more, each pair of the last body two.
        for n, pairs in ((172, 9), (173, 7), (173, 8), (173, 9), (174, 0)):
            body = ONE
            for _ in range(pairs):
                body = ("pair", body, ONE)
            f = ("f", ("n",), ("when", name("n"), behind_lets(4)[2][2], body))
            program = looked(((f,), give(fun("f"), number(n))))
            rows = all_rows(program, True)
            due = 23 * n + 5 + 2 * pairs
            self.assertEqual(least_room(program, rows, 0, 400), due if due <= 4000 else None)
            if (n, pairs) == (173, 8):
                self.assertEqual(self.check(program, rows, 0, 400), 4000)

    def test_it_comes_to_its_end_in_seconds(self):
        begun = time.monotonic()
        thousands = 0
        for functions, asked in [
            ((COUNT,), gives(fun("count"), number(399))), ((behind_lets(1),), give(fun("f"), number(380))),
            ((behind_lets(2),), give(fun("f"), number(250))), ((behind_lets(4),), give(fun("f"), number(399))),
            ((FROM,), give(fun("from"), ONE)), ((WAITS,), give(fun("waits"), ONE)), ((GROWS,), give(fun("grows"), ONE)),
            ((behind_lets(1), COUNT), ("pair", ("pair", give(fun("f"), number(300)), give(fun("count"), number(390))), give(fun("f"), number(200)))),
        ]:
            program = looked((functions, asked))
            for lean in (True, False):
                for deep in (0, 4):
                    least = least_room(program, all_rows(program, lean), deep, 400)
                    thousands += least is not None and least > 1000
        self.assertGreater(thousands, 8)
        self.assertLess(time.monotonic() - begun, 30)

    def test_great_ones_are_enough_and_one_less_is_not(self):
        for program in (counting(399), looked(((behind_lets(1),), give(fun("f"), number(250))))):
            for lean in (True, False):
                self.check(program, all_rows(program, lean), 0, 400)


class Handed(unittest.TestCase):
    def test_rows_that_are_not_let_by_are_refused(self):
        program = looked(((NONE,), fun("none")))
        right = all_rows(program, True)
        for rows, f in (((None, right[1]), "none"), ((right[0], ()), ""), ((right[1], right[0]), "none")):
            with self.assertRaises(NoRows) as caught:
                least_room(program, rows, 0, 400)
            self.assertEqual(caught.exception.name, f)

    def test_program_and_rows_stay_and_the_same_is_told_again(self):
        for program in programs(73000, 60):
            rows = all_rows(program, False)
            first = [least_room(program, rows, deep, 20) for deep in (0, 3, 1)]
            self.assertEqual([least_room(program, rows, deep, 20) for deep in (0, 3, 1)], first)
            self.assertEqual(rows, all_rows(program, False))
            self.assertEqual(looked(program), program)
