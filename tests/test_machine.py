"""Points 19 to 22: what a machine tells and how its cells become, by hand."""

import unittest

from lazywebs.errors import LazyError, NoRows
from lazywebs.looks import looked
from lazywebs.machine import Machine
from lazywebs.rows import all_rows, built_rows, lean_rows
from made import FAULTS, asked_only, counting, gives, less, numbers_from, plus
from samples import ONE, SAMPLE, fun, give, let, name, number

TWO, FOUR = number(2), number(4)
PAIR = ("pair", ONE, TWO)
MORE, RING, ROOM = ("more",), ("ring",), ("room",)
NONE = ("none", (), plus(ONE, TWO))
ROUND = ("round", (), fun("round"))
WAIT = ("wait", (), plus(fun("wait"), ONE))
ID = ("id", ("a",), name("a"))
TWICE = ("twice", ("a",), plus(name("a"), name("a")))
FIRST = ("first", ("a", "b"), name("a"))


def machine_of(program, lean=True, room=4000, moments=()):
    return Machine(program, all_rows(program, lean), room, list(moments))


def both(program, **more):
    """Machines by built and by lean rows."""
    return [machine_of(program, lean, **more) for lean in (False, True)]


def of(functions, asked):
    return looked((tuple(functions), asked))


class AtFirst(unittest.TestCase):
    def test_a_cell_for_each_function_that_wants_nothing(self):
        for program, cells in [
            (asked_only(ONE), {0: ("call", "")}),
            (of([NONE], ONE), {0: ("call", "none"), 1: ("call", "")}),
            (of([ID, TWICE], ONE), {0: ("call", "")}),
            (of([ID, WAIT, TWICE, NONE, FIRST, ROUND], ONE),
             {0: ("call", "wait"), 1: ("call", "none"), 2: ("call", "round"), 3: ("call", "")}),
            (SAMPLE, {0: ("call", "none"), 1: ("call", "")}),
        ]:
            for machine in both(program) + both(program, room=1, moments=[1]):
                self.assertEqual(machine.cells(), cells)
                self.assertEqual(machine.asked(), len(cells) - 1)
                self.assertEqual(machine.roots(), list(range(len(cells))))
                self.assertEqual((machine.calls(), machine.made(), machine.record()), (0, 0, []))

    def test_told_lists_and_dicts_are_the_askers_own(self):
        machine = machine_of(of([NONE, ID], give(fun("id"), fun("none"))))
        for _ in range(2):
            cells, roots, record = machine.cells(), machine.roots(), machine.record()
            for told in (machine.cells(), machine.roots(), machine.record()):
                told.clear()
            machine.cells()[0] = ("number", 7)
            machine.roots().append(7)
            machine.record().append(("stop", ()))
            self.assertEqual((machine.cells(), machine.roots(), machine.record()), (cells, roots, record))
            kept = dict(cells)
            machine.told(0, 400)
            self.assertEqual(cells, kept)
        taken = machine.sweep()
        record = machine.record()
        taken.clear()
        self.assertEqual(machine.record(), record)
        self.assertEqual(record[-1][0], "swept")
        self.assertNotEqual(record[-1][1], ())

    def test_nothing_hangs_on_the_list_of_moments_behind(self):
        program = counting(3)
        moments = [2, 5]
        machine = Machine(program, all_rows(program, True), 4000, moments)
        moments.clear()
        moments.extend([1, 3, 4, 6])
        machine.do(400)
        other = machine_of(program, moments=[2, 5])
        other.do(400)
        self.assertEqual(machine.record(), other.record())
        self.assertEqual([entry[0] for entry in machine.record()].count("swept"), 2)
        self.assertEqual(moments, [1, 3, 4, 6])

    def test_kinds_of_what_is_told(self):
        machine = machine_of(counting(2), moments=[3])
        machine.do(1)
        self.assertEqual([type(thing) for thing in (machine.cells(), machine.roots(), machine.record(), machine.sweep())],
                         [dict, list, list, list])
        for entry in machine.record():
            self.assertIs(type(entry), tuple)
            self.assertIs(type(entry[1]), int if entry[0] == "call" else tuple)
        for cell in machine.cells().values():
            self.assertIs(type(cell), tuple)


class Refused(unittest.TestCase):
    def refused(self, program, rows, name_of):
        with self.assertRaises(NoRows) as caught:
            Machine(program, rows, 4000, [])
        self.assertEqual(caught.exception.name, name_of)
        self.assertIs(type(caught.exception), NoRows)
        self.assertIsInstance(caught.exception, LazyError)
        self.assertIsInstance(caught.exception, ValueError)

    def test_one_functions_rows(self):
        program = of([ID, TWICE, NONE], ONE)
        right = all_rows(program, True)
        for at, f in enumerate(("id", "twice", "none", "")):
            for wrong in (None, True, 0, "", [], (), list(right[at]), right[at][:-1], right[at] * 2, right[at - 1]):
                self.refused(program, right[:at] + (wrong,) + right[at + 1:], f)

    def test_two_functions_rows(self):
        program = of([ID, TWICE, NONE], ONE)
        right = all_rows(program, False)
        self.refused(program, (right[0], None, None, right[3]), "twice")
        self.refused(program, (None, right[1], right[2], None), "id")
        self.refused(program, (right[0], right[1], (), ()), "none")
        self.refused(program, (right[1], right[0], right[2], right[3]), "id")

    def test_askeds_rows(self):
        for program in (asked_only(ONE), of([ID, NONE], ONE), SAMPLE):
            right = all_rows(program, True)
            self.refused(program, right[:-1] + (None,), "")
            self.refused(program, right[:-1] + (right[-1] + (("back",),),), "")

    def test_rows_of_either_sort_side_by_side_are_let_by(self):
        program = of([TWICE], give(fun("twice"), TWO))
        for rows in ((built_rows(program, "twice"), lean_rows(program, "")), (lean_rows(program, "twice"), built_rows(program, ""))):
            self.assertEqual(Machine(program, rows, 4000, []).do(1), FOUR)


class Told(unittest.TestCase):
    def tells(self, program, due, deep=0, most=400):
        for machine in both(program):
            self.assertEqual(machine.told(deep, most), due)
            if deep == 0:
                self.assertEqual(machine.do(most), due)

    def test_worths(self):
        self.tells(asked_only(number(-7)), number(-7))
        self.tells(asked_only(plus(ONE, ("times", TWO, FOUR))), number(9))
        self.tells(asked_only(less(ONE, FOUR)), number(-3))
        self.tells(asked_only(("below", ONE, FOUR)), ONE)
        self.tells(asked_only(("below", FOUR, ONE)), number(0))
        self.tells(asked_only(("below", ONE, ONE)), number(0))
        self.tells(asked_only(("when", number(0), ONE, TWO)), TWO)
        self.tells(asked_only(("when", number(-1), ONE, TWO)), ONE)
        self.tells(asked_only(PAIR), ("pair",))
        self.tells(asked_only(("left", PAIR)), ONE)
        self.tells(asked_only(("right", PAIR)), TWO)
        self.tells(of([TWICE], give(fun("twice"), FOUR)), number(8))
        self.tells(of([TWICE], fun("twice")), ("function", "twice", 0))
        self.tells(of([FIRST], give(fun("first"), ONE)), ("function", "first", 1))
        self.tells(of([FIRST], gives(fun("first"), ONE, TWO)), ONE)
        self.tells(of([FIRST, ID], gives(fun("first"), fun("id"), TWO, FOUR)), FOUR)
        self.tells(of([NONE], fun("none")), number(3))
        self.tells(asked_only(let([("x", ONE), ("y", plus(name("x"), name("x")))], plus(name("y"), name("x")))), number(3))
        self.tells(of([FIRST, WAIT], gives(fun("first"), ONE, fun("wait"))), ONE)

    def test_each_fault(self):
        for part, word in FAULTS:
            self.tells(asked_only(part), ("fault", word))
            self.tells(of([ID], give(fun("id"), part)), ("fault", word))
            self.tells(asked_only(plus(part, ONE)), ("fault", word))
            self.tells(asked_only(let([("x", part)], ("when", name("x"), ONE, TWO))), ("fault", word))
            self.tells(asked_only(("left", ("pair", ONE, part))), ONE)

    def test_faults_in_their_order(self):
        great, pair = FAULTS[3][0], FAULTS[2][0]
        for kind in ("plus", "less", "times", "below"):
            self.tells(asked_only((kind, great, pair)), ("fault", "great"))
            self.tells(asked_only((kind, pair, great)), ("fault", "pair"))
            self.tells(asked_only((kind, PAIR, great)), ("fault", "number"))
            self.tells(asked_only((kind, great, PAIR)), ("fault", "great"))
            self.tells(asked_only((kind, ONE, PAIR)), ("fault", "number"))
            self.tells(of([ID], (kind, fun("id"), ONE)), ("fault", "number"))
        self.tells(asked_only(("when", PAIR, great, great)), ("fault", "number"))
        self.tells(asked_only(("when", great, ONE, ONE)), ("fault", "great"))
        self.tells(asked_only(("left", ONE)), ("fault", "pair"))
        self.tells(of([ID], ("right", fun("id"))), ("fault", "pair"))
        self.tells(asked_only(give(PAIR, great)), ("fault", "function"))
        self.tells(asked_only(give(great, PAIR)), ("fault", "great"))
        self.tells(of([ID], gives(fun("id"), ONE, TWO)), ("fault", "function"))

    def test_numbers_of_sixty_figures(self):
        most = 10 ** 60 - 1
        self.tells(asked_only(plus(number(most - 1), ONE)), number(most))
        self.tells(asked_only(plus(number(most), ONE)), ("fault", "great"))
        self.tells(asked_only(less(number(-most), number(0))), number(-most))
        self.tells(asked_only(less(number(-most), ONE)), ("fault", "great"))
        self.tells(asked_only(("times", number(10 ** 30), number(-10 ** 30))), ("fault", "great"))

    def test_rings(self):
        for program in (of([ROUND], fun("round")), of([WAIT], fun("wait")), of([WAIT], ("when", fun("wait"), ONE, ONE)),
                        asked_only(let([("x", name("x"))], name("x"))), asked_only(let([("x", plus(name("x"), ONE))], name("x"))),
                        asked_only(let([("x", name("y")), ("y", name("x"))], ("left", name("x")))),
                        asked_only(let([("x", ("left", name("x")))], name("x"))),
                        asked_only(let([("x", give(name("x"), ONE))], name("x")))):
            self.tells(program, RING)
        self.tells(asked_only(let([("x", ("pair", ONE, name("x")))], name("x"))), ("pair", ONE, ("pair", ONE, ("pair",))), deep=2)

    def test_depths_each_side_by_a_doing_of_its_own(self):
        count = counting(3)[0][0]
        part = ("pair", gives(fun("count"), number(2)), ("pair", gives(fun("count"), number(4)), gives(fun("count"), ONE)))
        program = of([count], part)
        self.tells(program, ("pair",), 0, 0)
        self.tells(program, ("pair", TWO, ("pair",)), 1, 3)
        self.tells(program, ("pair", TWO, ("pair", MORE, ONE)), 2, 3)
        self.tells(program, ("pair", TWO, ("pair", MORE, ONE)), 2, 4)
        self.tells(program, ("pair", TWO, ("pair", FOUR, ONE)), 2, 5)
        self.tells(program, ("pair", TWO, ("pair", FOUR, ONE)), 4, 5)
        self.tells(program, ("pair", MORE, ("pair", MORE, MORE)), 3, 1)

    def test_all_that_may_be_told_in_a_pair(self):
        part = ("pair", ("pair", fun("wait"), FAULTS[0][0]), ("pair", fun("id"), ("pair", ONE, PAIR)))
        program = of([ID, WAIT], part)
        dues = [("pair",), ("pair", ("pair",), ("pair",)),
                ("pair", ("pair", RING, ("fault", "function")), ("pair", ("function", "id", 0), ("pair",))),
                ("pair", ("pair", RING, ("fault", "function")), ("pair", ("function", "id", 0), ("pair", ONE, ("pair",)))),
                ("pair", ("pair", RING, ("fault", "function")), ("pair", ("function", "id", 0), ("pair", ONE, PAIR)))]
        for deep, due in enumerate(dues):
            for machine in both(program):
                self.assertEqual(machine.told(deep, 400), due)

    def test_bounds(self):
        for lean in (False, True):
            for most in (0, 1, 2, 3):
                machine = machine_of(counting(3), lean)
                self.assertEqual((machine.do(most), machine.calls()), (MORE, most))
            machine = machine_of(counting(3), lean)
            self.assertEqual((machine.do(4), machine.calls()), (number(3), 4))
            self.assertEqual((machine.do(0), machine.calls()), (number(3), 4))
        for machine in both(of([NONE], plus(fun("none"), fun("none")))):
            self.assertEqual((machine.do(0), machine.do(1), machine.calls()), (MORE, number(6), 1))

    def test_four_hundred_calls_one_within_another(self):
        for machine in both(counting(399)):
            self.assertEqual((machine.do(400), machine.calls()), (number(399), 400))
        for machine in both(counting(400)):
            self.assertEqual((machine.do(400), machine.calls()), (MORE, 400))
        endless = of([("on", ("n",), give(fun("on"), plus(name("n"), ONE)))], give(fun("on"), ONE))
        for machine in both(endless):
            self.assertEqual((machine.do(400), machine.do(400), machine.calls()), (MORE, MORE, 800))

    def test_what_is_done_stays_done(self):
        for program, due in ((numbers_from(5), ("pair",)), (counting(7), number(7)), (of([NONE], fun("none")), number(3))):
            for machine in both(program):
                self.assertEqual(machine.do(400), due)
                before = (machine.cells(), machine.calls(), machine.made(), machine.record())
                self.assertEqual((machine.do(0), machine.told(0, 400)), (due, due))
                self.assertEqual((machine.cells(), machine.calls(), machine.made(), machine.record()), before)

    def test_asked_again_behind_a_stop_it_goes_on(self):
        # By built rows each call that has ended stays done: the last sum is waited for alone.
        program = of([("down", ("n",), ("when", name("n"), give(fun("down"), less(name("n"), ONE)), FOUR))],
                     give(fun("down"), number(9)))
        for machine in both(program):
            told = [machine.do(3) for _ in range(4)]
            self.assertEqual(told, [MORE, MORE, MORE, FOUR])
            self.assertEqual(machine.calls(), 10)
        for machine in both(counting(9)):
            self.assertEqual((machine.do(3), machine.do(400)), (MORE, number(9)))

    def test_two_machines_are_nothing_to_one_another(self):
        program = counting(3)
        rows = all_rows(program, True)
        one, other = Machine(program, rows, 4000, []), Machine(program, rows, 4000, [])
        one.do(400)
        self.assertEqual((other.cells(), other.record(), other.made()), ({0: ("call", "")}, [], 0))
        self.assertEqual(rows, all_rows(program, True))


class Cells(unittest.TestCase):
    def cells(self, program, lean, **due):
        machine = machine_of(program, lean)
        machine.do(400)
        self.assertEqual(machine.cells(), {int(n[1:]): cell for n, cell in due.items()})
        self.assertEqual(machine.made(), len(due) - len(machine.roots()))

    def test_numbers_and_sums(self):
        self.cells(asked_only(FOUR), True, c0=("same", 1), c1=FOUR)
        self.cells(asked_only(plus(ONE, TWO)), False, c0=("same", 3), c1=ONE, c2=TWO, c3=number(3))
        self.cells(asked_only(plus(ONE, TWO)), True, c0=("same", 3), c1=ONE, c2=TWO, c3=number(3))
        for kind, n in (("less", 0), ("times", 1), ("below", 0)):
            self.cells(asked_only((kind, ONE, ONE)), False, c0=("same", 3), c1=ONE, c2=ONE, c3=number(n))

    def test_chosen_cells(self):
        body = ("when", ONE, TWO, FOUR)
        self.cells(asked_only(body), False, c0=("same", 4), c1=ONE, c2=TWO, c3=FOUR, c4=("same", 2))
        self.cells(asked_only(body), True, c0=("same", 2), c1=ONE, c2=TWO)
        body = ("when", number(0), TWO, FOUR)
        self.cells(asked_only(body), False, c0=("same", 4), c1=number(0), c2=TWO, c3=FOUR, c4=("same", 3))
        self.cells(asked_only(body), True, c0=("same", 2), c1=number(0), c2=FOUR)

    def test_pairs_and_sides(self):
        pair = ("pair", 1, 2)
        self.cells(asked_only(PAIR), True, c0=("same", 3), c1=ONE, c2=TWO, c3=pair)
        self.cells(asked_only(("left", PAIR)), False, c0=("same", 4), c1=ONE, c2=TWO, c3=pair, c4=("same", 1))
        self.cells(asked_only(("right", PAIR)), False, c0=("same", 4), c1=ONE, c2=TWO, c3=pair, c4=("same", 2))
        self.cells(asked_only(("left", PAIR)), True, c0=("same", 1), c1=ONE, c2=TWO, c3=pair)
        self.cells(asked_only(("right", PAIR)), True, c0=("same", 2), c1=ONE, c2=TWO, c3=pair)

    def test_functions(self):
        three = ("three", ("a", "b", "c"), name("b"))
        own = ("function", "three", ())
        self.cells(of([three], fun("three")), True, c0=("same", 1), c1=own)
        self.cells(of([three], gives(fun("three"), ONE, TWO)), True, c0=("same", 5), c1=own, c2=ONE,
                   c3=("function", "three", (2,)), c4=TWO, c5=("function", "three", (2, 4)))
        self.cells(of([three], gives(fun("three"), ONE, TWO, FOUR)), True, c0=("same", 7), c1=own, c2=ONE,
                   c3=("function", "three", (2,)), c4=TWO, c5=("function", "three", (2, 4)), c6=FOUR, c7=("same", 4))

    def test_functions_that_want_nothing(self):
        self.cells(of([NONE], fun("none")), True, c0=("same", 4), c1=("same", 0), c2=ONE, c3=TWO, c4=number(3))
        self.cells(of([NONE, FIRST], give(fun("first"), fun("none"))), True, c0=("call", "none"), c1=("same", 3),
                   c2=("function", "first", ()), c3=("function", "first", (0,)))

    def test_lets(self):
        self.cells(asked_only(let([("x", FOUR)], name("x"))), True, c0=("same", 1), c1=("same", 2), c2=FOUR)
        self.cells(asked_only(let([("x", name("y")), ("y", plus(ONE, TWO))], name("x"))), True, c0=("same", 1),
                   c1=("same", 2), c2=("same", 5), c3=ONE, c4=TWO, c5=number(3))
        self.cells(asked_only(let([("x", name("x"))], name("x"))), True, c0=("same", 1), c1=("same", 1))
        self.cells(asked_only(let([("x", ("pair", name("x"), ONE))], name("x"))), True, c0=("same", 1), c1=("same", 3),
                   c2=ONE, c3=("pair", 1, 2))
        # What isn't asked for stays as it was built.
        self.cells(asked_only(let([("x", plus(ONE, TWO))], FOUR)), True, c0=("same", 5), c1=("same", 4), c2=ONE, c3=TWO,
                   c4=("plus", 2, 3), c5=FOUR)

    def test_a_let_within_the_rows_of_a_let(self):
        part = let([("x", let([("y", ONE)], name("y"))), ("z", TWO)], name("z"))
        self.cells(asked_only(part), True, c0=("same", 2), c1=("same", 3), c2=("same", 5), c3=("same", 4), c4=ONE, c5=TWO)

    def test_a_call_shares_its_things(self):
        self.cells(of([TWICE], give(fun("twice"), plus(ONE, TWO))), False, c0=("same", 5), c1=("function", "twice", ()),
                   c2=ONE, c3=TWO, c4=number(3), c5=("same", 6), c6=number(6))
        self.cells(of([TWICE], give(fun("twice"), plus(ONE, TWO))), True, c0=("same", 5), c1=("function", "twice", ()),
                   c2=ONE, c3=TWO, c4=number(3), c5=("same", 6), c6=number(6))

    def test_under_way_cells_are_as_they_were_behind_a_stop(self):
        fault = FAULTS[2][0]
        built, lean = both(of([ID], plus(give(fun("id"), fault), ONE)))
        self.assertEqual((built.do(400), lean.do(400)), (("fault", "pair"), ("fault", "pair")))
        self.assertEqual(built.cells(), {0: ("same", 6), 1: ("function", "id", ()), 2: ONE, 3: ("left", 2), 4: ("same", 3),
                                         5: ONE, 6: ("plus", 4, 5)})
        self.assertEqual(built.record(), [("call", 4, "id"), ("stop", (6, 3))])
        self.assertEqual(lean.cells(), {0: ("call", ""), 1: ("function", "id", ()), 2: ONE, 3: ("left", 2), 4: ("same", 3)})
        self.assertEqual(lean.record(), [("call", 4, "id"), ("stop", (0, 3))])

    def test_room_steps_make_as_many_cells_as_they_say(self):
        rows = [(x, ONE) for x in "wxyz"]
        for many in (1, 2, 3, 4):
            for machine in both(asked_only(let(rows[:many], TWO))):
                machine.do(0)
                self.assertEqual(machine.made(), 2 * many + 1)


class Record(unittest.TestCase):
    def test_calls(self):
        machine = machine_of(of([NONE, TWICE], plus(give(fun("twice"), fun("none")), fun("none"))))
        self.assertEqual(machine.do(400), number(9))
        self.assertEqual(machine.record(), [("call", 3, "twice"), ("call", 0, "none")])
        self.assertEqual(machine.calls(), 2)

    def test_stops_tell_the_marked_cells_in_their_order(self):
        for machine, stop in zip(both(of([WAIT], fun("wait"))), ((3,), (0,))):
            self.assertEqual(machine.do(400), RING)
            self.assertEqual(machine.record(), [("call", 0, "wait"), ("stop", stop)])
        machine = machine_of(asked_only(plus(ONE, ("times", TWO, ("less", FOUR, ("left", ONE))))), False)
        self.assertEqual(machine.do(400), ("fault", "pair"))
        self.assertEqual(machine.record(), [("stop", (8, 7, 6, 5))])
        machine = machine_of(counting(9))
        machine.do(2)
        self.assertEqual(machine.record(), [("call", 3, "count"), ("call", 8, "count"), ("stop", (3, 8, 13))])

    def test_a_stop_of_no_cells(self):
        for machine in both(of([ROUND], fun("round"))):
            self.assertEqual((machine.do(400), machine.told(3, 400), machine.do(0)), (RING, RING, RING))
            self.assertEqual(machine.record(), [("call", 0, "round")] + [("stop", ())] * 3)
            self.assertEqual(machine.calls(), 1)

    def test_a_stop_for_each_side_that_stops(self):
        machine = machine_of(of([ROUND], ("pair", ("left", ONE), ("pair", fun("round"), ("left", TWO)))))
        self.assertEqual(machine.told(2, 400), ("pair", ("fault", "pair"), ("pair", RING, ("fault", "pair"))))
        self.assertEqual(machine.record(), [("stop", (3,)), ("call", 0, "round"), ("stop", ()), ("stop", (5,))])

    def test_no_mark_is_left_behind_a_stop(self):
        for machine in both(of([NONE], ("pair", fun("none"), ("when", fun("none"), fun("none"), ONE)))):
            self.assertEqual(machine.told(1, 0), ("pair", MORE, MORE))
            self.assertEqual(machine.record()[0], ("stop", (0,)))
            self.assertEqual(machine.told(1, 1), ("pair", number(3), number(3)))
        for machine in both(of([WAIT], fun("wait"))):
            first = machine.do(400)
            for _ in range(3):
                self.assertEqual(machine.do(400), first)
        machine = machine_of(of([WAIT], fun("wait")), True)
        for times in (1, 2, 3):
            machine.do(400)
            self.assertEqual(machine.record(), [("call", 0, "wait"), ("stop", (0,))] * times)
            self.assertEqual(machine.roots(), [0, 1])

    def test_more_is_told_with_the_cell_whose_call_would_come(self):
        for machine in both(of([NONE, ID], give(fun("id"), fun("none")))):
            self.assertEqual((machine.do(0), machine.record()), (MORE, [("stop", (3,))]))
            self.assertEqual((machine.do(1), machine.record()[1:]), (MORE, [("call", 3, "id"), ("stop", (0,))]))
            self.assertEqual(machine.do(1), number(3))
            self.assertEqual(machine.record()[3:], [("call", 0, "none")])
