"""Points 23 and 24 of the machine: sweeps by hand, by moments and by little room."""

import unittest

from lazywebs.machine import Machine
from lazywebs.rows import all_rows
from made import asked_only, counting, gives, less, numbers_from, plus
from samples import ONE, fun, give, let, name, number
from test_machine import FIRST, FOUR, ID, NONE, PAIR, RING, ROOM, ROUND, TWICE, TWO, WAIT, both, machine_of, of

PLUSES = asked_only(plus(plus(ONE, TWO), plus(TWO, FOUR)))


def swept(machine):
    """What each sweep took, in their order."""
    return [cells for word, cells, *_ in machine.record() if word == "swept"]


class ByHand(unittest.TestCase):
    def test_all_else_goes(self):
        machine = machine_of(PLUSES, False)
        machine.do(0)
        self.assertEqual(machine.cells(), {0: ("same", 7), 1: ONE, 2: TWO, 3: number(3), 4: TWO, 5: FOUR, 6: number(6), 7: number(9)})
        self.assertEqual(machine.sweep(), [1, 2, 3, 4, 5, 6])
        self.assertEqual(machine.cells(), {0: ("same", 7), 7: number(9)})
        self.assertEqual(machine.record(), [("swept", (1, 2, 3, 4, 5, 6))])

    def test_the_second_takes_nothing_and_is_put_to_the_record(self):
        for program in (PLUSES, numbers_from(3), counting(3), of([ROUND, NONE], fun("round")), asked_only(let([("x", name("x"))], name("x")))):
            for machine in both(program):
                machine.told(2, 400)
                first = machine.sweep()
                cells = machine.cells()
                self.assertEqual((machine.sweep(), machine.sweep()), ([], []))
                self.assertEqual(machine.cells(), cells)
                self.assertEqual(machine.record()[-3:], [("swept", tuple(first)), ("swept", ()), ("swept", ())])

    def test_at_first_nothing_goes(self):
        for machine in both(of([NONE, ID], ONE)):
            self.assertEqual((machine.sweep(), machine.cells()), ([], {0: ("call", "none"), 1: ("call", "")}))
            self.assertEqual((machine.record(), machine.made(), machine.calls()), ([("swept", ())], 0, 0))

    def test_same_is_passed_over_in_cells(self):
        # 3, 4 and 5 come to be the same as others; the pair then names what these are.
        program = of([ID], let([("x", give(fun("id"), ONE)), ("y", name("x"))], ("pair", name("y"), ("pair", name("x"), name("y")))))
        machine = machine_of(program)
        self.assertEqual(machine.told(1, 400), ("pair", ONE, ("pair",)))
        self.assertEqual(machine.cells(), {0: ("same", 7), 1: ("same", 5), 2: ("same", 1), 3: ("function", "id", ()), 4: ONE,
                                           5: ("same", 4), 6: ("pair", 1, 2), 7: ("pair", 2, 6)})
        self.assertEqual(machine.sweep(), [1, 2, 3, 5])
        self.assertEqual(machine.cells(), {0: ("same", 7), 4: ONE, 6: ("pair", 4, 4), 7: ("pair", 4, 6)})

    def test_same_is_passed_over_in_functions_and_things_that_wait(self):
        three = ("three", ("a", "b", "c"), name("c"))
        rows = [("x", ONE), ("y", name("x"))]
        machine = machine_of(of([three], let(rows, gives(fun("three"), name("x"), name("y")))))
        machine.do(400)
        self.assertEqual(machine.cells()[6], ("function", "three", (1, 2)))
        self.assertEqual(machine.sweep(), [1, 2, 4, 5])
        self.assertEqual(machine.cells(), {0: ("same", 6), 3: ONE, 6: ("function", "three", (3, 3))})
        for kind in ("give", "plus", "less", "times", "below"):
            machine = machine_of(asked_only(let(rows, ("pair", (kind, name("y"), name("x")), ONE))))
            machine.do(400)
            machine.sweep()
            self.assertIn((kind, 3, 3), machine.cells().values())
        for kind in ("left", "right"):
            machine = machine_of(asked_only(let(rows, ("pair", (kind, name("y")), ONE))))
            machine.do(400)
            machine.sweep()
            self.assertIn((kind, 3), machine.cells().values())
        machine = machine_of(asked_only(let(rows, ("pair", ("when", name("y"), name("x"), name("y")), ONE))))
        machine.do(400)
        machine.sweep()
        self.assertIn(("when", 3, 3, 3), machine.cells().values())

    def test_round_rings_of_same_the_least_one_is_named(self):
        rows = [("x", name("y")), ("y", name("z")), ("z", name("x"))]
        for inner in "xyz":
            machine = machine_of(asked_only(let(rows, name(inner))))
            self.assertEqual(machine.do(400), RING)
            self.assertEqual(machine.cells(), {0: ("same", "xyz".index(inner) + 1), 1: ("same", 2), 2: ("same", 3), 3: ("same", 1)})
            self.assertEqual(machine.sweep(), [2, 3])
            self.assertEqual(machine.cells(), {0: ("same", 1), 1: ("same", 1)})
            self.assertEqual((machine.do(400), machine.sweep()), (RING, []))
        # A tail that leads into the round, whose least one isn't where it comes in.
        machine = machine_of(asked_only(let([("w", name("y")), *rows], ("pair", name("w"), name("z")))))
        machine.do(400)
        self.assertEqual(machine.sweep(), [1, 3, 4])
        self.assertEqual(machine.cells(), {0: ("same", 5), 2: ("same", 2), 5: ("pair", 2, 2)})

    def test_rings_of_cells_at_first(self):
        program = of([("f", (), fun("g")), ("g", (), fun("h")), ("h", (), fun("g"))], fun("f"))
        machine = machine_of(program)
        self.assertEqual(machine.do(400), RING)
        self.assertEqual(machine.cells(), {0: ("same", 1), 1: ("same", 2), 2: ("same", 1), 3: ("same", 0)})
        self.assertEqual(machine.sweep(), [])
        self.assertEqual(machine.cells(), {0: ("same", 1), 1: ("same", 1), 2: ("same", 1), 3: ("same", 1)})

    def test_what_roots_name_in_many_steps_stays(self):
        machine = machine_of(numbers_from(1))
        machine.told(4, 400)
        machine.sweep()
        before = machine.cells()
        self.assertEqual(machine.told(4, 400), ("pair", ONE, ("pair", TWO, ("pair", number(3), ("pair", FOUR, ("pair",))))))
        self.assertEqual(machine.cells(), before)

    def test_a_sweep_between_doings_changes_nothing_of_what_is_told(self):
        for lean in (False, True):
            swept_one, other = machine_of(counting(9), lean), machine_of(counting(9), lean)
            for most in (1, 2, 0, 3, 400, 400):
                self.assertEqual(swept_one.do(most), other.do(most))
                self.assertEqual(swept_one.calls(), other.calls())
                swept_one.sweep()

    def test_new_cells_get_the_least_numbers_that_are_free(self):
        machine = machine_of(of([NONE, TWICE], ("pair", fun("none"), give(fun("twice"), FOUR))))
        machine.told(0, 400)
        self.assertEqual(machine.cells(), {0: ("call", "none"), 1: ("same", 5), 2: ("function", "twice", ()), 3: FOUR,
                                           4: ("give", 2, 3), 5: ("pair", 0, 4)})
        machine.told(1, 400)
        self.assertEqual(machine.cells()[4], ("same", 9))
        self.assertEqual(machine.sweep(), [2, 3, 4, 6, 7])
        self.assertEqual(machine.cells(), {0: ("same", 8), 1: ("same", 5), 5: ("pair", 8, 9), 8: number(3), 9: number(8)})

        machine = machine_of(counting(2))
        self.assertEqual(machine.do(1), ("more",))
        before = machine.cells()
        taken = machine.sweep()
        self.assertEqual(machine.do(400), TWO)
        again = sorted(set(machine.cells()) - (set(before) - set(taken)))
        self.assertEqual(again[:len(taken)], taken)
        self.assertEqual(again, taken + list(range(len(before), len(machine.cells()))))


class ByMoments(unittest.TestCase):
    def test_it_sweeps_ahead_of_these_makings(self):
        # Makings: 1, 2, their sum, 2, 4, their sum, the sum of both.
        for moments, due in [
            ([], []), ([1], [()]), ([3], [()]), ([4], [(1, 2)]), ([5], [(1, 2)]), ([7], [(1, 2, 4, 5)]), ([8], []), ([0], []),
            ([4, 5], [(1, 2), ()]), ([5, 4, 4], [(1, 2), ()]), ([4, 7], [(1, 2), (1, 2)]), ([1, 2, 3, 4, 5, 6, 7], [(), (), (), (1, 2), (), (), (1, 2)]),
        ]:
            machine = machine_of(PLUSES, True, moments=moments)
            self.assertEqual((machine.do(0), machine.made()), (number(9), 7))
            self.assertEqual(swept(machine), due)

    def test_operands_are_on_the_pile_still_while_the_new_cell_is_made(self):
        for kind in ("plus", "less", "times", "below", "pair", "give"):
            for program, made in ((asked_only((kind, ONE, TWO)), 3), (asked_only(("left", (kind, ONE, TWO))), 3)):
                machine = machine_of(program, False, moments=[made])
                machine.do(0)
                self.assertEqual(swept(machine), [()])
        machine = machine_of(asked_only(("when", ONE, TWO, FOUR)), False, moments=[4])
        machine.do(0)
        self.assertEqual(swept(machine), [()])
        machine = machine_of(asked_only(plus(plus(ONE, TWO), FOUR)), True, moments=[5])
        machine.do(0)
        self.assertEqual(swept(machine), [(1, 2)])
        self.assertEqual(machine.cells(), {0: ("same", 1), 1: number(7), 3: number(3), 4: FOUR})

    def test_what_is_chosen_by_or_taken_from_goes(self):
        machine = machine_of(asked_only(("when", ONE, TWO, FOUR)), True, moments=[2])
        machine.do(0)
        self.assertEqual((swept(machine), machine.cells()), ([(1,)], {0: ("same", 1), 1: TWO}))
        machine = machine_of(asked_only(plus(("left", PAIR), FOUR)), True, moments=[4])
        machine.do(0)
        self.assertEqual(swept(machine), [(2, 3)])

    def test_locals_stay_until_their_call_ends(self):
        program = asked_only(let([("x", ONE), ("y", name("x"))], plus(TWO, FOUR)))
        machine = machine_of(program, True, moments=[6])
        machine.do(0)
        # 1 and 2 are passed over, 3 is the cell of both locals.
        self.assertEqual(swept(machine), [(1, 2)])
        self.assertEqual(machine.cells(), {0: ("same", 1), 1: number(6), 3: ONE, 4: TWO, 5: FOUR})
        self.assertEqual(machine.sweep(), [3, 4, 5])

    def test_bare_cells_stay(self):
        program = asked_only(let([("x", ONE), ("y", TWO)], ("pair", name("x"), name("y"))))
        for moments in ([2], [3], [4]):
            machine = machine_of(program, True, moments=moments)
            machine.do(0)
            self.assertEqual(swept(machine), [()] if moments != [4] else [(1,)])
            self.assertEqual(machine.told(1, 0), PAIR)

    def test_things_stay_until_their_call_ends(self):
        two = ("two", ("a", "b"), plus(ONE, TWO))
        machine = machine_of(of([two], gives(fun("two"), FOUR, ("left", FOUR))), True, moments=[9])
        self.assertEqual(machine.do(1), number(3))
        # 1 was named by what is a function of one thing now; 2 and 5 are things.
        self.assertEqual((swept(machine), machine.made()), ([(1,)], 9))
        self.assertEqual(machine.sweep(), [2, 3, 4, 5, 6, 7, 8])

    def test_what_waits_is_passed_over_too(self):
        # The second side is told behind sweeps that give its cell another number's place.
        program = of([ID, TWICE], let([("x", give(fun("id"), name("y"))), ("y", give(fun("twice"), TWO))],
                                      ("pair", ("pair", name("x"), give(fun("twice"), name("x"))), name("x"))))
        for lean in (False, True):
            plain = machine_of(program, lean)
            due = plain.told(2, 400)
            self.assertEqual(due, ("pair", ("pair", FOUR, number(8)), FOUR))
            for first in range(1, plain.made() + 1):
                machine = machine_of(program, lean, moments=range(first, plain.made() + 1))
                self.assertEqual((machine.told(2, 400), machine.calls()), (due, plain.calls()))

    def test_moments_are_counted_over_all_doings(self):
        machine = machine_of(of([NONE], ("pair", ONE, fun("none"))), moments=[3])
        self.assertEqual((machine.do(400), swept(machine)), (("pair",), []))
        self.assertEqual((machine.told(1, 400), swept(machine)), (("pair", ONE, number(3)), [()]))

    def test_a_making_that_is_wanted_again_is_swept_ahead_of_again(self):
        # Two are at first, a third has room; the second making is wanted twice.
        machine = machine_of(of([NONE], plus(ONE, TWO)), room=3, moments=[2])
        self.assertEqual((machine.do(400), machine.do(400)), (ROOM, ROOM))
        self.assertEqual(machine.record(), [("swept", ()), ("stop", (1,)), ("swept", (2,)), ("swept", ()), ("stop", (1,))])
        self.assertEqual(machine.made(), 2)


class ByRoom(unittest.TestCase):
    def test_it_sweeps_where_there_are_as_many_cells_as_room(self):
        for room, due in [(9, []), (8, []), (7, [(1, 2, 4, 5)]), (6, [(1, 2)]), (5, [(1, 2), (1, 4)])]:
            machine = machine_of(PLUSES, True, room=room)
            self.assertEqual((machine.do(0), machine.made()), (number(9), 7), room)
            self.assertEqual(swept(machine), due, room)

    def test_where_there_are_so_many_still_it_stops(self):
        machine = machine_of(PLUSES, False, room=5)
        self.assertEqual(machine.do(0), ROOM)
        self.assertEqual(machine.record(), [("swept", ()), ("stop", (0,))])
        self.assertEqual((machine.made(), machine.cells()), (4, {0: ("call", ""), 1: ONE, 2: TWO, 3: ("plus", 1, 2), 4: TWO}))
        # What has been made goes with the next sweep, and it is as far again.
        self.assertEqual(machine.do(0), ROOM)
        self.assertEqual(machine.record()[2:], [("swept", (1, 2, 3, 4)), ("swept", ()), ("stop", (0,))])
        self.assertEqual(machine.made(), 8)

    def test_a_room_that_is_enough(self):
        for program in (PLUSES, counting(5), numbers_from(2)):
            for machine, due in ((machine_of(program, lean, room=room), machine_of(program, lean))
                                 for lean in (False, True) for room in (60, 100, 4000)):
                self.assertEqual((machine.told(3, 400), machine.calls()), (due.told(3, 400), due.calls()))

    def test_no_more_room_than_the_cells_at_first(self):
        program = of([NONE, ROUND], plus(ONE, fun("none")))
        machine = machine_of(program, room=3)
        self.assertEqual(machine.do(400), ROOM)
        self.assertEqual(machine.record(), [("swept", ()), ("stop", (2,))])
        # Without a making no room is wanted.
        machine = machine_of(of([NONE, ROUND], fun("round")), room=3)
        self.assertEqual(machine.do(400), RING)
        self.assertEqual(machine.record(), [("call", 1, "round"), ("stop", ())])

    def test_less_room_than_the_cells_at_first(self):
        for room in (1, 2):
            for asked in (plus(ONE, fun("none")), fun("round"), ONE, PAIR):
                machine = machine_of(of([NONE, ROUND], asked), room=room, moments=[1, 2, 3])
                for times in (1, 2, 3):
                    self.assertEqual(machine.do(400) if times != 2 else machine.told(3, 400), ROOM)
                    self.assertEqual(machine.record(), [("stop", ())] * times)
                self.assertEqual(machine.cells(), {0: ("call", "none"), 1: ("call", "round"), 2: ("call", "")})
                self.assertEqual((machine.made(), machine.calls(), machine.roots()), (0, 0, [0, 1, 2]))
                self.assertEqual((machine.sweep(), machine.record()[-1]), ([], ("swept", ())))

    def test_ahead_of_one_making_it_sweeps_once_at_most(self):
        machine = machine_of(PLUSES, True, room=5, moments=[4, 5, 6])
        self.assertEqual((machine.do(0), swept(machine)), (number(9), [(1, 2), (), (), (1, 2)]))
        machine = machine_of(PLUSES, True, room=4, moments=[4, 5, 6])
        self.assertEqual((machine.do(0), swept(machine)), (ROOM, [(1, 2), (), ()]))
        self.assertEqual(machine.record()[-1], ("stop", (0,)))

    def test_room_in_one_side_and_none_in_the_other(self):
        program = of([NONE], ("pair", FOUR, fun("none")))
        for room, other in ((4, ROOM), (5, ROOM), (6, ROOM), (7, number(3))):
            machine = machine_of(program, room=room)
            self.assertEqual(machine.told(1, 400), ("pair", FOUR, other))
            self.assertEqual(machine.told(0, 400), ("pair",))
        self.assertEqual(machine_of(program, room=3).told(1, 400), ROOM)

    def test_all_marks_go_where_there_is_no_room(self):
        machine = machine_of(counting(9), room=30)
        first = machine.do(400)
        self.assertEqual(first, ROOM)
        for _ in range(3):
            self.assertEqual(machine.do(400), ROOM)
            self.assertEqual(machine.roots(), [0])
        self.assertEqual([entry for entry in machine.record() if entry[0] == "stop"][0][1][0], 3)

    def test_a_great_doing_in_just_enough_room(self):
        down = ("down", ("n", "k"), ("when", name("n"), gives(fun("down"), less(name("n"), ONE), ("left", ("pair", name("k"), ONE))), name("k")))
        program = of([down, FIRST], gives(fun("down"), number(390), FOUR))
        plain = machine_of(program)
        self.assertEqual((plain.do(400), plain.calls()), (FOUR, 391))
        machine = machine_of(program, room=1200)
        self.assertEqual((machine.do(400), machine.calls(), machine.made()), (FOUR, 391, plain.made()))

    def test_a_ring_tells_a_ring_in_any_room_that_is_enough(self):
        for program in (of([WAIT], fun("wait")), asked_only(let([("x", name("y")), ("y", name("x"))], plus(name("x"), ONE)))):
            for lean in (False, True):
                for room in range(5, 9):
                    self.assertEqual(Machine(program, all_rows(program, lean), room, [2, 3]).do(400), RING)
