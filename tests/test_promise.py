"""Point 3, of putting in, nodes, papers and the machine: they agree, on many programs."""

import functools
import random
import unittest

from altered import changes
from endings import all_endings, drawn_rows, names_of
from lazywebs.doing import Doer
from lazywebs.errors import More
from lazywebs.judge import shows
from lazywebs.looks import looked
from lazywebs.machine import Machine
from lazywebs.papers import paper_of
from lazywebs.plain import led, plain_told
from lazywebs.reading import read
from lazywebs.room import least_room
from lazywebs.rowjudge import lets_by
from lazywebs.rows import all_rows
from lazywebs.writing import written
from made import GROWS, WAITS, asked_only, counting, gives, plus, programs, says
from samples import ONE, fun, give, let, name, number

MORE, RING = ("more",), ("ring",)
PROGRAMS = programs(20000, 900)


def agrees(plain, other):
    """Whether what the nodes tell is right, where this is what putting in tells."""
    if plain == MORE:
        return True
    if len(plain) == 3 and plain[0] == "pair":
        return len(other) == 3 and agrees(plain[1], other[1]) and agrees(plain[2], other[2])
    return plain == other


def has_ring(told):
    return told == RING or any(has_ring(one) for one in told if isinstance(one, tuple))


def rings_are_endless(nodes, plain):
    """Whether putting in tells more wherever the nodes tell a ring."""
    if nodes == RING:
        return plain == MORE
    if len(nodes) == 3 and nodes[0] == "pair" and len(plain) == 3:
        return all(rings_are_endless(one, other) for one, other in zip(nodes[1:], plain[1:]))
    return True


def rings_are_rings(machine, nodes):
    """Whether the nodes tell a ring wherever the machine does."""
    if machine == RING:
        return nodes == RING
    if len(machine) == 3 and machine[0] == "pair" and len(nodes) == 3:
        return all(rings_are_rings(one, other) for one, other in zip(machine[1:], nodes[1:]))
    return True


@functools.cache
def sorts_of_rows(program):
    """Built rows, lean rows and rows between them."""
    return [all_rows(program, True), all_rows(program, False), drawn_rows(program, random.Random(str(program)))]


class Promise(unittest.TestCase):
    def test_nodes_come_to_what_putting_in_comes_to(self):
        for program in PROGRAMS:
            told, words = led(program, program[1], 400)
            if told != MORE:
                doer = Doer(program)
                self.assertEqual(doer.told(0, words.count("call")), told)
                self.assertLessEqual(doer.calls(), words.count("call"))

    def test_to_each_depth(self):
        for program in PROGRAMS[:500]:
            for deep in (1, 2, 4):
                self.assertTrue(agrees(plain_told(program, deep, 60), Doer(program).told(deep, 60)), program)

    def test_the_machine_comes_to_what_putting_in_comes_to(self):
        for program in PROGRAMS:
            told, words = led(program, program[1], 400)
            if told == MORE:
                continue
            doer = Doer(program)
            doer.told(0, 400)
            for rows in sorts_of_rows(program):
                machine = Machine(program, rows, 4000, [])
                # It needs no more calls than putting in, the nodes none more than it.
                self.assertEqual(machine.do(words.count("call")), told)
                self.assertLessEqual(machine.calls(), words.count("call"))
                self.assertLessEqual(doer.calls(), machine.calls())

    def test_the_machine_to_each_depth(self):
        for program in PROGRAMS[:500]:
            for deep in (1, 2, 4):
                plain = plain_told(program, deep, 60)
                for rows in sorts_of_rows(program):
                    self.assertTrue(agrees(plain, Machine(program, rows, 4000, []).told(deep, 60)), program)

    def test_where_the_machine_tells_a_ring_so_do_the_nodes(self):
        rings = 0
        for program in PROGRAMS:
            nodes = Doer(program).told(2, 60)
            for rows in sorts_of_rows(program):
                machine = Machine(program, rows, 4000, []).told(2, 60)
                self.assertTrue(rings_are_rings(machine, nodes), program)
                rings += has_ring(machine)
        self.assertGreater(rings, 300)

    def test_by_whatever_rows_the_machine_tells_the_same(self):
        for program in PROGRAMS[:600]:
            one, *others = [Machine(program, rows, 4000, []).told(2, 60) for rows in sorts_of_rows(program)]
            for other in others:
                self.assertTrue(agrees(one, other) and agrees(other, one), program)

    def test_by_all_the_rows_of_a_function_that_are_let_by(self):
        many = 0
        for program in PROGRAMS[:150]:
            rows = all_rows(program, False)
            due = Machine(program, rows, 4000, []).do(60)
            for at, f in enumerate(names_of(program)):
                if len(rows[at]) > 14:
                    continue
                for own in all_endings(program, f):
                    self.assertIs(lets_by(program, f, own), True)
                    told = Machine(program, rows[:at] + (own,) + rows[at + 1:], 4000, []).do(60)
                    self.assertTrue(agrees(due, told) and agrees(told, due), program)
                    many += 1
        self.assertGreater(many, 500)

    def test_the_four_ways_agree_at_moments_and_in_the_least_room(self):
        tight = 0
        for program in PROGRAMS[:350]:
            plain = plain_told(program, 2, 25)
            nodes = Doer(program).told(2, 25)
            self.assertTrue(agrees(plain, nodes))
            for rows in sorts_of_rows(program):
                machine = Machine(program, rows, 4000, [])
                due = (machine.told(2, 25), machine.calls(), machine.made())
                self.assertTrue(agrees(plain, due[0]) and agrees(due[0], nodes), program)
                least = least_room(program, rows, 2, 25)
                for room, moments in ((least, []), (least, [2, 3, 5, 8, 13]), (least + 3, [1]), (4000, range(1, due[2] + 1))):
                    swept = Machine(program, rows, room, list(moments))
                    self.assertEqual((swept.told(2, 25), swept.calls(), swept.made()), due)
                tight += least < len(machine.cells())
        self.assertGreater(tight, 300)

    def test_a_program_written_and_read_is_done_alike(self):
        for program in PROGRAMS[:300]:
            again = read(written(program))
            self.assertEqual(plain_told(again, 1, 60), plain_told(program, 1, 60))
            self.assertEqual(Doer(again).told(1, 60), Doer(program).told(1, 60))
            self.assertEqual(all_rows(again, True), all_rows(program, True))

    def test_rows_that_are_made_are_let_by(self):
        for program in PROGRAMS:
            for rows in sorts_of_rows(program):
                for f, own in zip(names_of(program), rows):
                    self.assertIs(lets_by(program, f, own), True)

    def test_no_more_calls_than_a_machine(self):
        for program in PROGRAMS[:600]:
            doer = Doer(program)
            told = doer.told(0, 60)
            for rows in sorts_of_rows(program):
                machine = Machine(program, rows, 4000, [])
                came = machine.do(60)
                if came != MORE:
                    self.assertEqual(told, came)
                    self.assertLessEqual(doer.calls(), machine.calls())

    def test_where_nodes_tell_a_ring_putting_in_never_ends(self):
        rings = 0
        for program in PROGRAMS:
            nodes = Doer(program).told(2, 60)
            if has_ring(nodes):
                rings += 1
                self.assertTrue(rings_are_endless(nodes, plain_told(program, 2, 400)), program)
        self.assertGreater(rings, 100)

    def test_putting_in_has_more_calls_where_things_are_shared(self):
        twice = ("twice", ("a",), plus(name("a"), name("a")))
        inc = ("inc", ("a",), plus(name("a"), ONE))
        program = looked(((twice, inc), give(fun("twice"), give(fun("twice"), give(fun("inc"), ONE)))))
        doer = Doer(program)
        told, words = led(program, program[1], 400)
        self.assertEqual((told, doer.told(0, 3)), (number(8), number(8)))
        self.assertEqual((doer.calls(), words.count("call")), (3, 7))

    def test_of_each_answer_a_paper_is_told_that_is_let_by(self):
        for program in PROGRAMS:
            doer = Doer(program)
            come = doer.do(doer.asked(), 60)
            if come == MORE:
                self.assertRaises(More, paper_of, program, 60)
            else:
                shown = shows(program, paper_of(program, 60))
                self.assertEqual(says(shown), says(come))

    def test_whatever_paper_is_let_by_is_as_it_says(self):
        let_by = 0
        for program in PROGRAMS[:80]:
            try:
                paper = paper_of(program, 5)
            except More:
                continue
            told, _ = led(program, program[1], 400)
            for changed in changes(paper) if len(paper[0]) <= 15 else ():
                shown = shows(program, changed)
                if shown is not None:
                    let_by += 1
                    self.assertEqual(told, MORE if shown == RING else says(shown))
        self.assertGreater(let_by, 20)

    def test_papers_that_say_another_thing(self):
        # Each line but the last is right; the last one claims too much.
        program = asked_only(let([("x", plus(ONE, ONE))], plus(name("x"), name("x"))))
        nodes, lines, way = paper_of(program, 0)
        self.assertEqual(shows(program, (nodes, lines, way)), ("worth", number(4)))
        for n in (3, 5, -4, 0):
            self.assertIsNone(shows(program, (nodes, lines[:-1] + ((*lines[-1][:2], number(n)),), way)))
        for word in ("number", "function", "pair", "great"):
            self.assertIsNone(shows(program, (nodes, lines[:-1] + ((*lines[-1][:2], ("fault", word)),), way)))
        self.assertIsNone(shows(program, (nodes, lines, ((lines[-1][0], ()),))))

    def test_endless_ones_that_are_no_ring(self):
        for function, f in ((GROWS, "grows"), (WAITS, "waits")):
            program = looked(((function,), give(fun(f), ONE)))
            self.assertEqual((plain_told(program, 0, 400), Doer(program).told(0, 400)), (MORE, MORE))

    def test_asking_one_changes_nothing_for_the_others(self):
        program = looked((counting(3)[0], gives(fun("count"), plus(ONE, ONE))))
        first = (led(program, program[1], 400), Doer(program).told(0, 400), paper_of(program, 400), all_rows(program, True))
        again = (led(program, program[1], 400), Doer(program).told(0, 400), paper_of(program, 400), all_rows(program, True))
        self.assertEqual(first, again)
