"""Points 14 and 15: the papers that are told, and where More is told instead."""

import unittest

from lazywebs.doing import Doer
from lazywebs.errors import LazyError, More
from lazywebs.judge import shows
from lazywebs.looks import looked
from lazywebs.papers import paper_of
from lazywebs.plain import led
from lazywebs.programs import body_place
from made import FAULTS, asked_only, counting, gives, numbers_from, plus, programs
from plainjudge import due_shown
from samples import ONE, fun, give, let, name, number

TWO = number(2)
RINGS = [
    asked_only(let([("x", name("x"))], name("x"))),
    asked_only(let([("x", name("y")), ("y", plus(ONE, name("x")))], ("left", name("y")))),
    looked(((("f", ("a",), plus(give(fun("f"), name("a")), ONE)),), plus(plus(ONE, ONE), give(fun("f"), ONE)))),
    looked(((("f", ("a", "b"), gives(fun("f"), name("b"), name("a"))),), gives(fun("f"), ONE, TWO))),
    looked(((("f", (), fun("g")), ("g", (), fun("f"))), fun("g"))),
]


def is_of_tuples(thing):
    if type(thing) is tuple:
        return all(is_of_tuples(one) for one in thing)
    return type(thing) in (int, str)


def doer_tells(program, most):
    doer = Doer(program)
    return doer.do(doer.asked(), most)


class Papers(unittest.TestCase):
    def looks_right(self, program, most):
        """The paper, which is as the doer tells and as both judges let by."""
        paper = paper_of(program, most)
        come = doer_tells(program, most)
        self.assertTrue(is_of_tuples(paper))
        self.assertEqual(len(paper), 3)
        self.assertEqual(paper_of(program, most), paper)
        shown = shows(program, paper)
        self.assertEqual(shown, due_shown(program, paper))
        self.assertEqual(shown[0], come[0])
        if come[0] == "worth" and come[1][0] == "number" or come[0] == "fault":
            self.assertEqual(shown, come)
        if come[0] == "worth":
            self.assertEqual(shown[1][:2] if shown[1][0] == "function" else shown[1][0],
                             come[1][:2] if come[1][0] == "function" else come[1][0])
        return paper

    def test_worths_of_each_kind(self):
        self.looks_right(asked_only(plus(ONE, ONE)), 0)
        self.looks_right(asked_only(("pair", give(ONE, ONE), ONE)), 0)
        self.looks_right(looked(((("f", ("a", "b"), ONE),), give(fun("f"), TWO))), 0)
        self.looks_right(counting(7), 8)
        self.looks_right(numbers_from(3), 1)

    def test_the_nodes_of_a_worth_are_in_the_paper(self):
        nodes, lines, way = self.looks_right(asked_only(("pair", ONE, plus(ONE, TWO))), 0)
        _, one, other = lines[-1][2]
        self.assertEqual((nodes[one], nodes[other], way), ((1, ()), (2, ()), ()))
        program = looked(((("f", ("a", "b"), ONE),), give(fun("f"), TWO)))
        nodes, lines, _ = self.looks_right(program, 0)
        self.assertEqual(nodes[lines[-1][2][2][0]], (body_place(program, "") + 2, ()))

    def test_each_fault(self):
        for part, word in FAULTS:
            for asked in (part, plus(plus(ONE, ONE), part), ("left", part), ("when", ONE, part, ONE), give(part, ONE)):
                nodes, lines, way = self.looks_right(asked_only(asked), 0)
                self.assertEqual((lines[-1][2], way), (("fault", word), ()))
                self.assertEqual(nodes[lines[-1][0]], (0, ()))

    def test_rings_and_the_way_of_them(self):
        for program in RINGS:
            nodes, lines, way = self.looks_right(program, 400)
            self.assertEqual(nodes[way[0][0]], (body_place(program, ""), ()))
            self.assertTrue(all(come[0] in ("number", "function", "pair") for _, _, come in lines))
            around = [node for node, _ in way]
            self.assertEqual(len(set(around)), len(around))

    def test_the_way_goes_to_the_node_that_comes_again(self):
        program = asked_only(("left", let([("x", plus(plus(ONE, TWO), name("x")))], name("x"))))
        nodes, lines, way = self.looks_right(program, 0)
        # left, let, x's plus, which has done its first need and needs itself.
        self.assertEqual([nodes[node] for node, _ in way], [(0, ()), (1, ()), (2, ())])
        self.assertEqual([len(uses) for _, uses in way], [0, 0, 1])
        self.assertEqual(lines[way[2][1][0]][2], number(3))

    def test_more_just_where_the_doer_tells_it(self):
        for most in range(6):
            with self.assertRaises(More):
                paper_of(counting(5), most)
        for most in (6, 7, 400):
            self.looks_right(counting(5), most)
        with self.assertRaises(More):
            paper_of(looked(((("f", (), fun("f")),), fun("f"))), 0)
        self.looks_right(looked(((("f", (), fun("f")),), fun("f"))), 1)

    def test_more_is_a_lazy_error_and_a_value_error(self):
        with self.assertRaises(ValueError) as caught:
            paper_of(counting(5), 2)
        self.assertIs(type(caught.exception), More)
        self.assertIsInstance(caught.exception, LazyError)
        self.looks_right(counting(5), 6)

    def test_deep_ones(self):
        self.looks_right(counting(399), 400)
        again = ("f", ("a",), plus(give(fun("f"), plus(name("a"), ONE)), ONE))
        with self.assertRaises(More):
            paper_of(looked(((again,), give(fun("f"), ONE))), 400)

    def test_a_long_way(self):
        functions = tuple([("f" + "abcdefgh"[k], (), fun("f" + "abcdefgh"[(k + 1) % 8])) for k in range(8)])
        nodes, _, way = self.looks_right(looked((functions, plus(fun("fc"), ONE))), 8)
        self.assertEqual(len(way), 10)

    def test_what_is_told_ahead_changes_nothing(self):
        program = counting(3)
        first = paper_of(program, 400)
        doer = Doer(program)
        doer.told(0, 400)
        shows(program, first)
        self.assertEqual(paper_of(program, 400), first)
        self.assertEqual(program, counting(3))

    def test_many_programs(self):
        found = {}
        for program in programs(8000, 500):
            for most in (0, 2, 30):
                if doer_tells(program, most) == ("more",):
                    self.assertRaises(More, paper_of, program, most)
                else:
                    found[shows(program, self.looks_right(program, most))[0]] = True
        self.assertEqual(sorted(found), ["fault", "ring", "worth"])

    def test_a_paper_says_what_putting_in_comes_to(self):
        for program in programs(9000, 300):
            told, _ = led(program, program[1], 300)
            if told != ("more",):
                shown = shows(program, paper_of(program, 300))
                worth = shown[1]
                if shown[0] == "worth" and worth[0] == "function":
                    self.assertEqual(("function", worth[1], len(worth[2])), told)
                elif shown[0] == "worth":
                    self.assertEqual(worth if worth[0] == "number" else ("pair",), told)
                else:
                    self.assertEqual(shown, told)
