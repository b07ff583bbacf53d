"""Points 14 and 15: what anything shows as a paper, papers by others and changed ones too."""

import random
import unittest

from altered import changes
from lazywebs.errors import More
from lazywebs.judge import shows
from lazywebs.looks import looked
from lazywebs.papers import paper_of
from lazywebs.plain import led
from lazywebs.programs import places
from made import asked_only, counting, gives, plus, programs, says
from plainjudge import due_shown
from samples import ONE, fun, give, let, name, number

TWO = number(2)
# Places: 0 plus, 1 one, 2 two.
SUM = asked_only(plus(ONE, TWO))
SUM_NODES = ((0, ()), (1, ()), (2, ()))
SUM_LINES = ((1, (), ONE), (2, (), TWO), (0, (0, 1), number(3)))
# Places: 0 plus, 1 name a, 2 one; 3 give, 4 fun, 5 give, 6 fun, 7 two.
CALLS = looked(((("f", ("a",), plus(name("a"), ONE)),), give(fun("f"), give(fun("f"), TWO))))
# Places: 0 let, 1 x's plus, 2 one, 3 x; 4 left, 5 x.
RING = asked_only(let([("x", plus(ONE, name("x")))], ("left", name("x"))))
RING_NODES = ((0, ()), (4, ()), (1, ()), (2, ()))
RING_LINES = ((3, (), ONE),)
RING_WAY = ((0, ()), (1, ()), (2, (0,)))
# Places: 0 pair, 1 one, 2 give, 3 one, 4 one.
FAULT = asked_only(("left", ("left", ("pair", ONE, give(ONE, ONE)))))


def renumbered(paper, order):
    """The paper with its nodes in another order: order[k] is the new number of node k."""
    nodes, lines, way = paper

    def worth(come):
        if come[0] == "pair":
            return ("pair", order[come[1]], order[come[2]])
        if come[0] == "function":
            return ("function", come[1], tuple(order[k] for k in come[2]))
        return come

    moved = [None] * len(nodes)
    for k, (place, things) in enumerate(nodes):
        moved[order[k]] = (place, tuple(order[thing] for thing in things))
    return (tuple(moved), tuple((order[node], uses, worth(come)) for node, uses, come in lines),
            tuple((order[node], uses) for node, uses in way))


def other_order(paper, turns):
    """An order in which each node stands behind its things still, by turns of a seeded source."""
    nodes = paper[0]
    order = {}
    while len(order) < len(nodes):
        ready = [k for k in range(len(nodes)) if k not in order and all(thing in order for thing in nodes[k][1])]
        order[turns.choice(ready)] = len(order)
    return order


def lines_twice(paper):
    """The paper with each line twice, the second ones using second ones."""
    nodes, lines, way = paper
    doubled = []
    for node, uses, come in lines:
        doubled.append((node, tuple(2 * use for use in uses), come))
        doubled.append((node, tuple(2 * use + 1 for use in uses), come))
    return (nodes, tuple(doubled), tuple((node, tuple(2 * use for use in uses)) for node, uses in way))


class JudgeCase(unittest.TestCase):
    def shown(self, program, thing, due):
        told = shows(program, thing)
        self.assertEqual(told, due, thing)
        self.assertEqual(due_shown(program, thing), due, thing)
        self.assertEqual(repr(told), repr(due))
        self.assertEqual(shows(program, thing), due)

    def none(self, program, *things):
        for thing in things:
            self.shown(program, thing, None)


class Shown(JudgeCase):
    def test_a_worth(self):
        self.shown(SUM, (SUM_NODES, SUM_LINES, ()), ("worth", number(3)))

    def test_a_fault(self):
        program = asked_only(plus(ONE, ("left", TWO)))
        nodes = ((0, ()), (1, ()), (2, ()), (3, ()))
        lines = ((1, (), ONE), (3, (), TWO), (2, (1,), ("fault", "pair")), (0, (0, 2), ("fault", "pair")))
        self.shown(program, (nodes, lines, ()), ("fault", "pair"))
        # Its lines ahead alone show nothing of what is asked.
        self.none(program, (nodes, lines[:3], ()), (nodes, (), ()))
        # Behind a fault no further use is needed, and none may stand.
        program = asked_only(plus(("left", ONE), TWO))
        nodes = ((0, ()), (1, ()), (2, ()), (3, ()))
        lines = ((2, (), ONE), (1, (0,), ("fault", "pair")), (3, (), TWO))
        self.shown(program, (nodes, lines + ((0, (1,), ("fault", "pair")),), ()), ("fault", "pair"))
        self.none(program, (nodes, lines + ((0, (1, 2), ("fault", "pair")),), ()))
        self.none(program, (nodes, lines + ((0, (1,), ("fault", "number")),), ()))
        self.none(program, (nodes, lines + ((0, (), ("fault", "pair")),), ()))

    def test_a_fault_of_its_own(self):
        program = asked_only(plus(("pair", ONE, ONE), TWO))
        nodes = ((0, ()), (1, ()), (2, ()), (3, ()), (4, ()))
        pair, two = (1, (), ("pair", 2, 3)), (4, (), TWO)
        self.shown(program, (nodes, (pair, (0, (0,), ("fault", "number"))), ()), ("fault", "number"))
        self.none(program, (nodes, (pair, two, (0, (0, 1), ("fault", "number"))), ()))
        self.none(program, (nodes, (pair, (0, (0,), ("fault", "pair"))), ()))

    def test_a_ring(self):
        self.shown(RING, (RING_NODES, RING_LINES, RING_WAY), ("ring",))

    def test_a_ring_whatever_the_last_line_is_about(self):
        more = RING_LINES + ((3, (), ONE), (3, (), ONE))
        self.shown(RING, (RING_NODES, more, RING_WAY), ("ring",))

    def test_nodes_of_a_way_may_come_twice(self):
        for many in range(1, 4):
            self.shown(RING, (RING_NODES, RING_LINES, RING_WAY + RING_WAY[2:] * many), ("ring",))
        self.none(RING, (RING_NODES, RING_LINES, RING_WAY[:2] + RING_WAY[1:]))

    def test_a_way_that_is_not_right(self):
        for way in (RING_WAY[:2], RING_WAY[:1], RING_WAY[1:], RING_WAY[2:], ((0, ()), (2, (0,))), RING_WAY[:2] + ((2, ()),),
                    RING_WAY[:2] + ((2, (0, 0)),), ((0, (0,)),) + RING_WAY[1:], RING_WAY + ((3, ()),),
                    RING_WAY[:1] + RING_WAY, RING_WAY[:2] + ((3, ()),) + RING_WAY[2:]):
            self.none(RING, (RING_NODES, RING_LINES, way))
        self.none(RING, (RING_NODES, RING_LINES, ()), (RING_NODES, (), RING_WAY))

    def test_a_way_by_a_fault_is_none(self):
        # Its last node's first need is a fault: it has no next one.
        program = asked_only(let([("x", plus(("left", ONE), name("x")))], name("x")))
        nodes = ((0, ()), (1, ()), (2, ()), (3, ()))
        lines = ((3, (), ONE), (2, (0,), ("fault", "pair")))
        self.none(program, (nodes, lines, ((0, ()), (1, (1,)))))
        both = lines + ((1, (1,), ("fault", "pair")), (0, (2,), ("fault", "pair")))
        self.shown(program, (nodes, both, ()), ("fault", "pair"))

    def test_a_node_that_is_not_there(self):
        self.none(SUM, (SUM_NODES[1:], ((0, (), ONE),), ()))
        self.none(SUM, ((), (), ()))
        # The pair's sides and what a function is given must be there too.
        program = asked_only(("pair", ONE, TWO))
        self.shown(program, (((0, ()), (1, ()), (2, ())), ((0, (), ("pair", 1, 2)),), ()), ("worth", ("pair", 1, 2)))
        self.none(program, (((0, ()), (1, ())), ((0, (), ("pair", 1, 2)),), ()))
        self.none(program, (((0, ()),), ((0, (), ("pair", 1, 2)),), ()))
        program = looked(((("f", ("a", "b"), ONE),), give(fun("f"), TWO)))
        nodes, lines = ((1, ()), (2, ())), ((1, (), ("function", "f", ())), (0, (0,), ("function", "f", (2,))))
        self.none(program, (nodes, lines, ()))
        self.shown(program, (nodes + ((3, ()),), lines, ()), ("worth", ("function", "f", (2,))))

    def test_the_needs_of_a_ring_must_be_there(self):
        program = asked_only(let([("x", name("x"))], name("x")))
        self.shown(program, (((0, ()), (1, ())), (), ((0, ()), (1, ()))), ("ring",))
        self.none(program, (((0, ()),), (), ((0, ()),)))
        self.none(program, (((1, ()),), (), ((0, ()),)))

    def test_numbers_of_nodes_that_are_not_in_the_paper(self):
        program = asked_only(("pair", ONE, TWO))
        nodes = ((0, ()), (1, ()), (2, ()))
        for pair in ((1, 3), (3, 2), (-2, 2), (1, -1), (True, 2), (False, 2), (1, None), (1, "2"), (1, (2,)), (1,), (1, 2, 2)):
            self.none(program, (nodes, ((0, (), ("pair", *pair)),), ()))

    def test_lines_more_that_nothing_hangs_on(self):
        program = paper_of(CALLS, 5)
        for more in ((0, (), ONE), (0, (0,), ONE)):
            self.none(CALLS, (program[0], (more,) + program[1], ()))
        nodes = SUM_NODES + ()
        right = ((2, (), TWO), (2, (), TWO)) + tuple((node, tuple(use + 2 for use in uses), come) for node, uses, come in SUM_LINES)
        self.shown(SUM, (nodes, right, ()), ("worth", number(3)))
        for wrong in ((2, (), ONE), (2, (), number(3)), (0, (), number(3)), (2, (), ("fault", "pair")), (1, (), TWO)):
            self.none(SUM, (nodes, (wrong,) + tuple((node, tuple(use + 1 for use in uses), come)
                                                    for node, uses, come in SUM_LINES), ()))

    def test_the_last_line_must_be_about_the_asked_node(self):
        self.none(SUM, (SUM_NODES, SUM_LINES + SUM_LINES[:1], ()))
        self.shown(SUM, (SUM_NODES, SUM_LINES + SUM_LINES[2:], ()), ("worth", number(3)))

    def test_uses_of_lines_that_do_not_stand_ahead(self):
        for uses in ((0, 2), (0, 3), (2, 1), (-3, 1), (0, -2)):
            self.none(SUM, (SUM_NODES, SUM_LINES[:2] + ((0, uses, number(3)),), ()))
        self.none(SUM, (SUM_NODES, SUM_LINES[2:] + SUM_LINES[:2], ()))

    def test_uses_of_other_lines_than_those_that_are_needed(self):
        for uses in ((), (0,), (1,), (1, 0), (0, 0), (1, 1), (0, 1, 0), (0, 1, 1)):
            self.none(SUM, (SUM_NODES, SUM_LINES[:2] + ((0, uses, number(3)),), ()))

    def test_alike_nodes_are_no_paper(self):
        self.none(SUM, (SUM_NODES + SUM_NODES[:1], SUM_LINES, ()), (SUM_NODES[:1] + SUM_NODES, SUM_LINES, ()))

    def test_things_of_nodes(self):
        nodes, lines, _ = paper_of(CALLS, 5)
        at = [k for k, node in enumerate(nodes) if node[1]][0]
        for things in ((at,), (at + 1,), (-1,), (True,), (False,), (None,), (), (0, 0), [nodes[at][1][0]], ((0,),), "0"):
            self.none(CALLS, (nodes[:at] + ((nodes[at][0], things),) + nodes[at + 1:], lines, ()))
        for place in (-1, 8, True, None, "0", (0,)):
            self.none(CALLS, (nodes + ((place, ()),), lines, ()), (nodes + ((place, (0,)),), lines, ()))
        self.assertEqual(shows(CALLS, (nodes + ((4, ()),) if (4, ()) not in nodes else nodes, lines, ())), ("worth", number(4)))

    def test_true_and_false_are_no_numbers(self):
        self.none(SUM, (((False, ()),) + SUM_NODES[1:], SUM_LINES, ()), (SUM_NODES, ((True, (), ONE),) + SUM_LINES[1:], ()))
        self.none(SUM, (SUM_NODES, ((1, (), number(True)),) + SUM_LINES[1:], ()))
        self.none(SUM, (SUM_NODES, SUM_LINES[:2] + ((0, (False, True), number(3)),), ()))
        self.none(SUM, (SUM_NODES, SUM_LINES[:2] + ((False, (0, 1), number(3)),), ()))
        self.none(RING, (RING_NODES, RING_LINES, ((False, ()),) + RING_WAY[1:]))
        self.none(RING, (RING_NODES, RING_LINES, RING_WAY[:2] + ((2, (False,)),)))

    def test_lists_for_tuples(self):
        self.none(SUM, [SUM_NODES, SUM_LINES, ()], (list(SUM_NODES), SUM_LINES, ()), (SUM_NODES, list(SUM_LINES), ()),
                  (SUM_NODES, SUM_LINES, []), (SUM_NODES, SUM_LINES[:2] + ([0, (0, 1), number(3)],), ()),
                  (SUM_NODES, SUM_LINES[:2] + ((0, [0, 1], number(3)),), ()),
                  (SUM_NODES, SUM_LINES[:2] + ((0, (0, 1), ["number", 3]),), ()))
        self.none(RING, (RING_NODES, RING_LINES, list(RING_WAY)), (RING_NODES, RING_LINES, RING_WAY[:2] + ([2, (0,)],)),
                  (RING_NODES, RING_LINES, RING_WAY[:2] + ((2, [0]),)))


class Others(JudgeCase):
    def papers(self, first, many):
        for program in programs(first, many):
            try:
                yield program, paper_of(program, 40)
            except More:
                pass

    def test_nodes_in_another_order(self):
        turns = random.Random(1)
        for program, paper in self.papers(10000, 200):
            order = other_order(paper, turns)
            moved = renumbered(paper, order)
            told, due = shows(program, moved), due_shown(program, moved)
            self.assertEqual(told, due)
            self.assertEqual(told[0], shows(program, paper)[0])

    def test_more_nodes(self):
        for program, paper in self.papers(10500, 200):
            nodes = list(paper[0])
            for place in range(200):
                if has_no_things(program, place) and (place, ()) not in nodes:
                    nodes.append((place, ()))
            more = (tuple(nodes), *paper[1:])
            self.assertEqual(shows(program, more), shows(program, paper))
            self.assertEqual(due_shown(program, more), shows(program, paper))

    def test_lines_twice(self):
        for program, paper in self.papers(11000, 200):
            doubled = lines_twice(paper)
            self.shown(program, doubled, shows(program, paper))
            self.shown(program, lines_twice(doubled), shows(program, paper))

    def test_ways_that_go_round_more_than_once(self):
        many = 0
        for program, paper in self.papers(11500, 200):
            nodes, lines, way = paper
            for start in range(len(way)):
                told = shows(program, (nodes, lines, way + way[start:]))
                self.assertEqual(told, due_shown(program, (nodes, lines, way + way[start:])))
                many += told == ("ring",)
        self.assertGreater(many, 20)

    def test_a_ring_met_later_than_it_could_be(self):
        program = asked_only(let([("x", name("y")), ("y", name("x"))], name("x")))
        # 0 let, 1 x's row (name y), 2 y's row (name x), 3 name x.
        nodes = ((0, ()), (1, ()), (2, ()))
        for way in (((0, ()), (1, ()), (2, ())), ((0, ()), (1, ()), (2, ()), (1, ())), ((0, ()), (1, ()), (2, ()), (1, ()), (2, ()))):
            self.shown(program, (nodes, (), way), ("ring",))
        for way in (((0, ()), (1, ())), ((0, ()), (2, ())), ((0, ()), (1, ()), (1, ())), ((1, ()), (2, ()))):
            self.none(program, (nodes, (), way))

    def test_papers_of_another_program(self):
        others = [SUM, CALLS, RING, FAULT, counting(2), asked_only(ONE), asked_only(plus(ONE, ONE))]
        for program in others:
            for other in others:
                paper = paper_of(other, 20)
                self.assertEqual(shows(program, paper), due_shown(program, paper))
                if program != other:
                    self.assertIsNone(shows(program, paper))


class Changed(JudgeCase):
    def changed(self, program, paper):
        """What the changed papers show, counted; both judges tell the same of each."""
        shown = {}
        for thing in changes(paper):
            told = shows(program, thing)
            self.assertEqual(repr(told), repr(due_shown(program, thing)), thing)
            shown[told] = shown.get(told, 0) + 1
        return shown

    def test_any_one_thing_changed(self):
        for program in (SUM, CALLS, RING, FAULT):
            paper = paper_of(program, 20)
            shown = self.changed(program, paper)
            self.assertGreater(shown[None], 100)
            # Where it isn't refused it says the same.
            self.assertLessEqual(set(shown), {None, shows(program, paper)})

    def test_a_worth_of_nodes_changed(self):
        for program in (asked_only(("pair", ONE, ("pair", TWO, ONE))), looked(((("f", ("a", "b", "c"), ONE),), gives(fun("f"), ONE, TWO)))):
            paper = paper_of(program, 0)
            shown = self.changed(program, paper)
            self.assertEqual({told and told[1][0] for told in shown}, {None, shows(program, paper)[1][0]})

    def test_many_papers_changed(self):
        for program in programs(12000, 60):
            try:
                paper = paper_of(program, 4)
            except More:
                continue
            if len(paper[0]) <= 12:
                told, _ = led(program, program[1], 200)
                for shown in self.changed(program, paper):
                    if shown is not None:
                        self.assertEqual(told, ("more",) if shown == ("ring",) else says(shown))


def has_no_things(program, place):
    """Whether a node of this place is without things."""
    found = places(program)
    functions = [*program[0], ("", (), program[1])]
    return place < len(found) and not functions[found[place][1]][1]


def nested(deep, many, kind, inner):
    thing = inner
    for _ in range(deep - 1):
        thing = kind([thing] * many)
    return kind([thing])


class Anything(JudgeCase):
    def test_what_is_no_tuple_of_three(self):
        paper = (SUM_NODES, SUM_LINES, ())
        self.none(SUM, None, True, False, 0, 1, -1, 10 ** 70, "", "paper", "abc", (), [], [1, 2, 3], (1,), (1, 2), (1, 2, 3),
                  (1, 2, 3, 4), paper[:2], paper + ((),), (paper,), (paper, paper, paper), [paper], list(paper))

    def test_tuples_of_two_three_and_four_things(self):
        things = [None, True, False, 0, 3, "", "pair", (), [], ((),), [[]], (0,), ("number", 3), SUM_NODES, SUM_LINES]
        for one in things:
            self.none(SUM, (one, one), (one, one, one, one))
            for other in things:
                for third in things:
                    told = shows(SUM, (one, other, third))
                    self.assertEqual(told, ("worth", number(3)) if (one, other, third) == (SUM_NODES, SUM_LINES, ()) else None)

    def test_strange_things_in_each_place(self):
        strange = [None, True, "x", (), [], ((),), ([],), [()], (None,), ("number",), ("number", [1]), ([], []), ((), (), ()), -1]
        for thing in strange:
            self.none(SUM, ((thing,), (), ()), (SUM_NODES, (thing,), ()), (SUM_NODES, SUM_LINES, (thing,)),
                      (SUM_NODES, SUM_LINES, ((0, thing),)), (SUM_NODES, SUM_LINES, ((thing, ()),)),
                      (SUM_NODES, ((1, (), thing),), ()), (SUM_NODES, ((thing, (), ONE),), ()),
                      (((thing, ()),), (), ()), (SUM_NODES, ((1, (thing,), ONE),), ()))
            if thing != ():
                self.none(SUM, (SUM_NODES, ((1, thing, ONE),), ()), (((0, thing),), (), ()), (thing, (), ()),
                          (SUM_NODES, SUM_LINES, thing), (SUM_NODES, thing, ()))
            for word in ("number", "function", "pair", "fault", "ring", [], None):
                self.none(SUM, (SUM_NODES, ((1, (), (word, thing)),), ()), (SUM_NODES, ((1, (), (word, thing, thing)),), ()),
                          (SUM_NODES, ((1, (), (word, "f", thing)),), ()), (SUM_NODES, ((1, (), (word,)),), ()))

    def test_deep_things(self):
        for kind in (tuple, list):
            for deep in range(1, 30):
                thing = nested(deep, 1, kind, 0)
                self.none(SUM, thing, (thing, thing, thing)[:3], (SUM_NODES, thing, ()), (SUM_NODES, SUM_LINES, thing))
                self.none(SUM, (SUM_NODES, ((1, (), thing),), ()), (thing, SUM_LINES, ()), (SUM_NODES, ((1, thing, ONE),), ()))

    def test_great_things(self):
        self.none(SUM, tuple(range(39000)), ((0,) * 39000, (), ()), (SUM_NODES, (0,) * 39000, ()),
                  (SUM_NODES, SUM_LINES, (0,) * 39000), (SUM_NODES, SUM_LINES[:2] + ((0, (0, 1) + (1,) * 39000, number(3)),), ()))
        many = SUM_LINES[:1] * 9000
        told = shows(SUM, (SUM_NODES, many + SUM_LINES[1:2] + ((0, (5, 9000), number(3)),), ()))
        self.assertEqual(told, ("worth", number(3)))
        self.assertEqual(shows(RING, (RING_NODES, RING_LINES, RING_WAY + RING_WAY[2:] * 9000)), ("ring",))

    def test_numbers_beyond_sixty_figures(self):
        for n in (10 ** 60, 10 ** 5000, -(10 ** 61)):
            self.none(SUM, (SUM_NODES, SUM_LINES[:2] + ((0, (0, 1), number(n)),), ()), (((n, ()),), (), ()),
                      (SUM_NODES, ((n, (), ONE),), ()), (SUM_NODES, ((0, (n,), ONE),), ()), (SUM_NODES, SUM_LINES, ((n, ()),)))
