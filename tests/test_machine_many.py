"""Points 19 to 24 of the machine on many programs, beside one worked out another way."""

import random
import unittest

from endings import drawn_rows
from lazywebs.looks import looked
from lazywebs.machine import Machine
from lazywebs.rows import all_rows
from lazywebs.sweeps import lets_sweep, sweep_paper
from made import COUNT, FROM, GROWS, WAITS, Maker, counting, gives, numbers_from, programs
from plaincells import PlainCells
from samples import ONE, fun, give, let, name, number

ROOM = ("room",)


def has_room(told):
    """Whether it says anywhere that there was no room."""
    return told == ROOM or any(has_room(one) for one in told if isinstance(one, tuple))


def rows_of(program, turns):
    """Built rows, lean rows or rows between them."""
    return turns.choice((all_rows(program, True), all_rows(program, False), drawn_rows(program, turns)))


def state(machine):
    return (machine.cells(), machine.record(), machine.made(), machine.calls())


def ask(turns, machine, other):
    """Asks both machines the same, and tells what both tell."""
    deed = turns.randrange(4)
    deep, most = turns.randrange(5), turns.choice((0, 1, 2, 5, 30))
    if deed == 0:
        return machine.sweep(), other.sweep()
    if deed == 1:
        return machine.do(most), other.told(0, most)
    return machine.told(deep, most), other.told(deep, most)


class Beside(unittest.TestCase):
    def test_all_is_the_same_beside_another_machine(self):
        for seed in range(50000, 50900):
            program, turns = Maker(seed).program(), random.Random(seed)
            rows = rows_of(program, turns)
            room = turns.choice((4000, 4000, 2, 5, 10, 15, 20, 30, 50))
            moments = turns.sample(range(1, 60), turns.choice((0, 0, 3, 20, 59)))
            machine, other = Machine(program, rows, room, moments), PlainCells(program, rows, room, moments)
            for _ in range(4):
                told, due = ask(turns, machine, other)
                self.assertEqual(told, due, seed)
                self.assertEqual(state(machine), (other.cells(), other.record, other.made, other.calls), seed)

    def test_greater_ones_beside_another_machine(self):
        lets = ("f", ("n",), ("when", name("n"), let([("x", give(fun("f"), ("less", name("n"), ONE))), ("y", ("pair", name("x"), name("y")))],
                                                     ("plus", name("x"), ("plus", name("x"), ("left", name("y"))))), number(0)))
        for program in (counting(12), numbers_from(3), looked(((lets,), gives(fun("f"), number(7)))),
                        looked(((COUNT, FROM), ("pair", gives(fun("from"), gives(fun("count"), number(4))), gives(fun("count"), number(5))))),
                        looked(((GROWS,), give(fun("grows"), ONE))), looked(((WAITS,), give(fun("waits"), ONE)))):
            for lean in (True, False):
                for room, moments in ((4000, []), (40, []), (25, []), (60, [7, 8, 30, 31, 50]), (4000, range(1, 400))):
                    rows = all_rows(program, lean)
                    machine, other = Machine(program, rows, room, list(moments)), PlainCells(program, rows, room, moments)
                    for deep, most in ((0, 9), (4, 20)):
                        self.assertEqual(machine.told(deep, most), other.told(deep, most))
                        self.assertEqual(state(machine), (other.cells(), other.record, other.made, other.calls))

    def test_asked_the_same_a_new_machine_does_the_same(self):
        for seed in range(51000, 51100):
            program, turns = Maker(seed).program(), random.Random(seed)
            rows = rows_of(program, turns)
            one, other = [Machine(program, rows, 30, [4, 9, 16, 17]) for _ in range(2)]
            self.assertEqual([one.told(deep, 9) for deep in (0, 3)], [other.told(deep, 9) for deep in (0, 3)])
            self.assertEqual(state(one), state(other))
            self.assertEqual(state(one), state(one))


class Swept(unittest.TestCase):
    def test_whatever_moments_tell_the_same_by_the_same_calls(self):
        for seed in range(52000, 52500):
            program, turns = Maker(seed).program(), random.Random(seed)
            rows = rows_of(program, turns)
            plain = Machine(program, rows, 4000, [])
            deeds = [(turns.randrange(5), turns.choice((0, 1, 3, 30))) for _ in range(3)]
            due = [(plain.told(deep, most), plain.calls(), plain.made()) for deep, most in deeds]
            for moments in (range(1, plain.made() + 1), turns.sample(range(1, plain.made() + 2), plain.made() // 2)):
                machine = Machine(program, rows, 4000, list(moments))
                self.assertEqual([(machine.told(deep, most), machine.calls(), machine.made()) for deep, most in deeds], due)

    def test_whatever_room_that_is_enough_tells_the_same_by_the_same_calls(self):
        tight = 0
        for seed in range(53000, 53300):
            program, turns = Maker(seed).program(), random.Random(seed)
            rows = rows_of(program, turns)
            plain = Machine(program, rows, 4000, [])
            due = (plain.told(3, 30), plain.calls(), plain.made())
            for room in range(1, 2 + len(plain.cells())):
                machine = Machine(program, rows, room, turns.sample(range(1, 40), 3))
                told = machine.told(3, 30)
                if not has_room(told):
                    self.assertEqual((told, machine.calls(), machine.made()), due)
                    tight += len(machine.record()) - len(plain.record())
                else:
                    self.assertLessEqual(room, len(plain.cells()))
        self.assertGreater(tight, 1000)

    def test_a_room_that_is_enough_is_so_with_more(self):
        for program in programs(54000, 60):
            rows = all_rows(program, True)
            enough = [not has_room(Machine(program, rows, room, []).told(2, 20)) for room in range(1, 60)]
            self.assertEqual(enough, sorted(enough))

    def test_papers_of_sweeps_at_whatever_time(self):
        for seed in range(55000, 55150):
            program, turns = Maker(seed).program(), random.Random(seed)
            machine = Machine(program, rows_of(program, turns), turns.choice((20, 4000)), [5, 6, 20])
            for _ in range(3):
                machine.told(turns.randrange(4), turns.choice((1, 20)))
                before, roots = machine.cells(), machine.roots()
                paper = sweep_paper(before, roots)
                self.assertIs(lets_sweep(before, roots, paper), True)
                taken = machine.sweep()
                # All that a sweep takes is either not named or passed over.
                for number_of in taken:
                    self.assertTrue(number_of not in paper[0] or before[number_of][0] == "same")
                self.assertEqual(sorted([*taken, *machine.cells()]), sorted(before))
                self.assertEqual(sweep_paper(machine.cells(), machine.roots())[0], tuple(sorted(machine.cells())))


class Record(unittest.TestCase):
    def test_between_two_calls_of_one_cell_a_stop_or_a_sweep(self):
        again = 0
        for seed in range(56000, 56500):
            program, turns = Maker(seed).program(), random.Random(seed)
            machine = Machine(program, rows_of(program, turns), turns.choice((15, 25, 4000)), turns.sample(range(1, 60), 9))
            for _ in range(4):
                machine.told(turns.randrange(3), turns.choice((0, 1, 2, 20)))
                if turns.random() < 0.2:
                    machine.sweep()
            called = set()
            for entry in machine.record():
                if entry[0] == "call":
                    self.assertNotIn(entry[1], called)
                    called.add(entry[1])
                else:
                    again += len(called & set(entry[1]))
                    called -= set(entry[1])
        self.assertGreater(again, 200)

    def test_it_is_in_order_and_counts_what_is_counted(self):
        for seed in range(57000, 57300):
            program, turns = Maker(seed).program(), random.Random(seed)
            machine = Machine(program, rows_of(program, turns), turns.choice((20, 4000)), [3, 8, 30])
            ahead, made = [], 0
            for deep, most in ((0, 2), (1, 20), (3, 20)):
                machine.told(deep, most)
                record = machine.record()
                self.assertEqual(record[:len(ahead)], ahead)
                self.assertEqual(machine.calls(), sum(entry[0] == "call" for entry in record))
                self.assertGreaterEqual(machine.made(), made)
                ahead, made = record, machine.made()
            taken = sum(len(entry[1]) for entry in ahead if entry[0] == "swept")
            self.assertEqual(len(machine.cells()), len(machine.roots()) + made - taken)
            for entry in ahead:
                if entry[0] == "swept":
                    self.assertEqual(list(entry[1]), sorted(set(entry[1])))

    def test_behind_a_doing_nothing_is_marked_and_nothing_waits(self):
        for seed in range(58000, 58200):
            program, turns = Maker(seed).program(), random.Random(seed)
            machine = Machine(program, rows_of(program, turns), 25, [])
            first = sum(not names for _, names, _ in program[0]) + 1
            for _ in range(3):
                machine.told(turns.randrange(3), turns.choice((0, 1, 2, 20)))
                self.assertEqual(machine.roots(), list(range(first)))
            taken = machine.sweep()
            self.assertEqual(machine.sweep(), [])
            self.assertEqual(set(taken) & set(machine.cells()), set())
