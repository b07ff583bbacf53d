"""Point 23: papers of sweeps, and their judge, of anything."""

import unittest

from altered import changes
from lazywebs.machine import Machine
from lazywebs.rows import all_rows
from lazywebs.sweeps import lets_sweep, sweep_paper
from made import counting, numbers_from, programs

# Roots 0 and 1; 6, 7 and 10 aren't kept.
CELLS = {
    0: ("same", 3), 1: ("call", ""), 2: ("number", 4), 3: ("pair", 2, 5), 4: ("plus", 2, 8), 5: ("when", 4, 2, 5),
    6: ("left", 3), 7: ("function", "f", (6, 2)), 8: ("function", "f", (9,)), 9: ("bare",), 10: ("same", 10),
}
ROOTS = [0, 1]
KEPT = (0, 1, 2, 3, 4, 5, 8, 9)
WAYS = ((0,), (1,), (0, 3, 2), (0, 3), (0, 3, 5, 4), (0, 3, 5), (0, 3, 5, 4, 8), (0, 3, 5, 4, 8, 9))


def right_by_words(cells, roots, paper):
    """What lets_sweep should tell of what is built as a paper is."""
    names = {}
    for number, cell in cells.items():
        listed = cell[2] if cell[0] == "function" else cell[1:]
        names[number] = {n for n in listed if isinstance(n, int)} if cell[0] != "number" else set()
    kept, ways = paper
    if list(kept) != sorted(set(kept)) or len(ways) != len(kept) or not set(roots) <= set(kept):
        return False
    for one, way in zip(kept, ways):
        if not way or way[0] not in roots or way[-1] != one or not names.get(one, set()) <= set(kept):
            return False
        if any(b not in names.get(a, ()) for a, b in zip(way, way[1:])):
            return False
    return True


def is_built(thing):
    """Whether it is two tuples, of numbers and of tuples of numbers."""
    def are_numbers(one):
        return type(one) is tuple and all(type(n) is int for n in one)

    if type(thing) is not tuple or len(thing) != 2 or not are_numbers(thing[0]):
        return False
    return type(thing[1]) is tuple and all(are_numbers(way) for way in thing[1])


def states():
    """Cells and roots of machines, behind doings and sweeps."""
    for program in [counting(4), numbers_from(1)] + programs(40000, 60):
        for lean in (True, False):
            machine = Machine(program, all_rows(program, lean), 4000, [])
            for deep, most in ((0, 3), (3, 20)):
                machine.told(deep, most)
                yield machine.cells(), machine.roots()
            machine.sweep()
            yield machine.cells(), machine.roots()


class Papers(unittest.TestCase):
    def test_a_paper_told(self):
        self.assertEqual(sweep_paper(CELLS, ROOTS)[0], KEPT)
        self.assertIs(lets_sweep(CELLS, ROOTS, sweep_paper(CELLS, ROOTS)), True)
        for one, way in zip(KEPT, sweep_paper(CELLS, ROOTS)[1]):
            self.assertEqual((way[0] in ROOTS, way[-1]), (True, one))

    def test_its_kinds(self):
        kept, ways = sweep_paper(CELLS, ROOTS)
        self.assertEqual([type(thing) for thing in (kept, ways, *ways)], [tuple] * (2 + len(KEPT)))

    def test_many_states_of_machines(self):
        for cells, roots in states():
            paper = sweep_paper(cells, roots)
            self.assertIs(lets_sweep(cells, roots, paper), True)
            self.assertTrue(right_by_words(cells, roots, paper))
            self.assertTrue(is_built(paper))

    def test_behind_a_sweep_all_cells_are_kept(self):
        for program in programs(41000, 60):
            machine = Machine(program, all_rows(program, True), 4000, [])
            machine.told(2, 20)
            machine.sweep()
            kept, _ = sweep_paper(machine.cells(), machine.roots())
            self.assertEqual(kept, tuple(sorted(machine.cells())))

    def test_roots_in_other_orders(self):
        for roots in ([1, 0], [5, 0, 1], [0, 1, 0], [9, 8, 4, 0, 1]):
            paper = sweep_paper(CELLS, roots)
            self.assertEqual(paper[0], KEPT)
            self.assertIs(lets_sweep(CELLS, roots, paper), True)
        self.assertEqual(sweep_paper(CELLS, []), ((), ()))
        self.assertIs(lets_sweep(CELLS, [], ((), ())), True)
        self.assertIs(lets_sweep(CELLS, ROOTS, ((), ())), False)
        self.assertEqual(sweep_paper({0: ("call", "")}, [0]), ((0,), ((0,),)))

    def test_long_chains(self):
        cells = {n: ("same", n + 1) for n in range(1500)}
        cells[1500] = ("number", 1)
        paper = sweep_paper(cells, [0])
        self.assertEqual(paper[1][1500], tuple(range(1501)))
        self.assertIs(lets_sweep(cells, [0], paper), True)

    def test_nothing_handed_in_is_changed(self):
        cells, roots = dict(CELLS), list(ROOTS)
        first = sweep_paper(cells, roots)
        self.assertIs(lets_sweep(cells, roots, first), True)
        self.assertEqual((cells, roots), (CELLS, ROOTS))
        self.assertEqual(sweep_paper(cells, roots), first)


class Judge(unittest.TestCase):
    def check(self, kept, ways, due, cells=CELLS, roots=ROOTS):
        self.assertIs(lets_sweep(cells, roots, (tuple(kept), tuple(ways))), due, (kept, ways))

    def with_way(self, one, way):
        ways = list(WAYS)
        ways[KEPT.index(one)] = way
        return ways

    def test_other_right_ways(self):
        self.check(KEPT, WAYS, True)
        self.check(KEPT, self.with_way(2, (0, 3, 5, 2)), True)
        self.check(KEPT, self.with_way(2, (0, 3, 5, 4, 2)), True)
        self.check(KEPT, self.with_way(5, (0, 3, 5, 5, 5, 5)), True)
        self.check(KEPT, self.with_way(2, (0, 3, 5, 5, 4, 2)), True)
        self.check(KEPT, self.with_way(5, (5,)), True, roots=[0, 1, 5])

    def test_a_root_lacks(self):
        self.check(KEPT[:1] + KEPT[2:], WAYS[:1] + WAYS[2:], False)
        self.check(KEPT, WAYS, False, roots=[0, 1, 6])
        self.check((1,), ((1,),), False)
        self.check((1,), ((1,),), True, roots=[1])

    def test_a_kept_cell_names_one_that_is_not_kept(self):
        for one in (2, 3, 4, 5, 8, 9):
            at = KEPT.index(one)
            self.check(KEPT[:at] + KEPT[at + 1:], WAYS[:at] + WAYS[at + 1:], False)
        self.check(KEPT[:-2] + (9,), WAYS[:-2] + (WAYS[-1],), False)

    def test_ways_that_are_none(self):
        for way in ((), (3, 2), (0, 2), (0, 3), (0, 3, 2, 3), (1, 3, 2), (6, 3, 2), (2,), (0, 3, 4, 2), (0, 3, 2, 2),
                    (0, 3, 5, 4, 8, 2), (0, 0, 3, 2), (0, 77, 2), (77, 2), (0, 3, 77)):
            self.check(KEPT, self.with_way(2, way), False)

    def test_too_few_or_too_many(self):
        self.check(KEPT, WAYS[:-1], False)
        self.check(KEPT, WAYS + ((0,),), False)
        self.check(KEPT[:-1], WAYS, False)
        self.check(KEPT, (), False)
        self.check((), WAYS, False)

    def test_kept_is_rising(self):
        self.check(KEPT[::-1], WAYS[::-1], False)
        self.check((1, 0) + KEPT[2:], (WAYS[1], WAYS[0]) + WAYS[2:], False)
        self.check((0, 0) + KEPT[1:], (WAYS[0],) + WAYS, False)

    def test_more_kept_than_are_come_to(self):
        self.check(KEPT[:6] + (6,) + KEPT[6:], WAYS[:6] + ((6,),) + WAYS[6:], False)
        self.check(KEPT[:6] + (6,) + KEPT[6:], WAYS[:6] + ((0, 6),) + WAYS[6:], False)
        self.check(KEPT + (10,), WAYS + ((10, 10),), False)
        self.check(KEPT + (77,), WAYS + ((0, 77),), False)
        self.check((-1,) + KEPT, ((0, -1),) + WAYS, False)

    def test_papers_with_any_one_thing_changed(self):
        counts = {True: 0, False: 0}
        for cells, roots in [(CELLS, ROOTS)] + [state for state in states() if len(state[0]) < 12]:
            for changed in changes(sweep_paper(cells, roots)):
                due = is_built(changed) and right_by_words(cells, roots, changed)
                self.assertIs(lets_sweep(cells, roots, changed), due, changed)
                counts[due] += 1
        self.assertGreater(counts[False], 10000)

    def test_anything(self):
        for thing in (None, True, False, 0, 7, -1, "", "paper", [], (), [KEPT, WAYS], (KEPT,), (KEPT, WAYS, ()),
                      (list(KEPT), WAYS), (KEPT, list(WAYS)), (KEPT, None), (None, WAYS), (KEPT, 0), (0, 0), ("", ""),
                      (KEPT, WAYS[:2] + ([0, 3, 2],) + WAYS[3:]), (KEPT, tuple("0" for _ in KEPT)), (WAYS, KEPT),
                      ((False, True) + KEPT[2:], WAYS), (KEPT, ((False,), (True,)) + WAYS[2:]), (KEPT, KEPT),
                      (KEPT, ((0,), (1,), ((0,), 3, 2)) + WAYS[3:]), (KEPT, ((0,), (1,), ([0], 3, 2)) + WAYS[3:]),
                      (KEPT, ((0,), (1,), (None, 3, 2)) + WAYS[3:]), (KEPT, ((0,), (1,), ("0", 3, 2)) + WAYS[3:]),
                      (KEPT, ((0,), (1,), (0, [3], 2)) + WAYS[3:]), (([],), ((0,),)), (((0,),), ((0,),)), ((None,), ((0,),))):
            self.assertIs(lets_sweep(CELLS, ROOTS, thing), False, thing)

    def test_nested_and_great_things(self):
        thing = ()
        for _ in range(29):
            thing = (thing, thing)
            self.assertIs(lets_sweep(CELLS, ROOTS, thing), False)
            self.assertIs(lets_sweep(CELLS, ROOTS, (KEPT, (thing,) * len(KEPT))), False)
        thing = []
        for _ in range(29):
            thing = [thing, 0]
            self.assertIs(lets_sweep(CELLS, ROOTS, (KEPT, thing)), False)
        many = tuple(range(19000))
        self.assertIs(lets_sweep(CELLS, ROOTS, (many, ((0,) * 20000,) * 19000)), False)
        self.assertIs(lets_sweep(CELLS, ROOTS, (many, many)), False)
        # A long way round the cell that names itself, held for each.
        way = (0, 3) + (5,) * 19000
        self.assertIs(lets_sweep(CELLS, ROOTS, (many, (way,) * 19000)), False)
        self.check(KEPT, self.with_way(5, way), True)
