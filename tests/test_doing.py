"""Point 13: nodes done, what is kept, rings, faults, bounds and how many calls there were."""

import unittest

from lazywebs.doing import Doer
from lazywebs.looks import looked
from lazywebs.nodes import Nodes
from lazywebs.programs import body_place
from made import FAULTS, asked_only, counting, gives, less, numbers_from, plus, programs
from plaindoing import PlainDoer
from samples import ONE, fun, give, let, name, number

TWO = number(2)
MORE, RING = ("more",), ("ring",)
SUM = ("sum", ("a",), plus(name("a"), ONE))
CHAIN = (
    ("first", ("a",), give(fun("second"), name("a"))),
    ("second", ("a",), give(fun("third"), name("a"))),
    ("third", ("a",), plus(name("a"), ONE)),
)
# Of one call each, where it is asked by its own words alone.
RINGS = [
    let([("x", name("x"))], name("x")),
    let([("x", name("y")), ("y", plus(ONE, name("x")))], name("y")),
    let([("x", ("left", name("x")))], ("when", name("x"), ONE, ONE)),
    let([("x", give(name("x"), ONE))], plus(ONE, name("x"))),
]


def doer_of(functions, asked):
    return Doer(looked((tuple(functions), asked)))


def node_at(doer, program, f, offset, things=()):
    """The number of the node at the place so far behind the function's body."""
    return doer.nodes().node(body_place(program, f) + offset, things)


class DoerCase(unittest.TestCase):
    def does(self, doer, most, due, calls):
        """That what is asked, told 0 deep, is as due, by so many calls so far."""
        self.assertEqual(doer.told(0, most), due)
        self.assertEqual(doer.calls(), calls)


class Worths(DoerCase):
    def test_each_kind_of_worth(self):
        program = looked(((SUM, ("two", ("a", "b"), ONE)), ("pair", ONE, TWO)))
        doer = Doer(program)
        kind, worth = doer.do(doer.asked(), 0)
        self.assertEqual((kind, worth[0]), ("worth", "pair"))
        place = body_place(program, "")
        self.assertEqual([doer.nodes().told(side) for side in worth[1:]], [(place + 1, ()), (place + 2, ())])
        self.assertEqual([doer.do(side, 0) for side in worth[1:]], [("worth", ONE), ("worth", TWO)])
        doer = doer_of((("two", ("a", "b"), ONE),), give(fun("two"), TWO))
        kind, (word, f, things) = doer.do(doer.asked(), 0)
        self.assertEqual((kind, word, f, len(things)), ("worth", "function", "two", 1))
        self.assertEqual(doer.do(things[0], 0), ("worth", TWO))
        doer = doer_of((), plus(ONE, ONE))
        self.assertEqual(doer.do(doer.asked(), 0), ("worth", TWO))

    def test_at_first_there_were_no_calls(self):
        doer = doer_of((SUM,), give(fun("sum"), ONE))
        self.assertEqual(doer.calls(), 0)
        self.assertEqual(doer.nodes().told(doer.asked()), (body_place(((SUM,), ONE), ""), ()))
        self.assertEqual((type(doer.asked()), type(doer.calls())), (int, int))
        self.assertIsInstance(doer.nodes(), Nodes)

    def test_the_asked_node_is_the_one_seen_at_askeds_place(self):
        doer = doer_of((SUM,), let([("x", ONE)], name("x")))
        nodes = doer.nodes()
        self.assertEqual(doer.asked(), nodes.seen(3, ()))
        self.assertEqual(nodes.many(), 1)

    def test_done_nodes_are_not_done_again(self):
        doer = Doer(counting(5))
        self.does(doer, 400, number(5), 6)
        for most in (0, 1, 400):
            self.does(doer, most, number(5), 6)
            self.assertEqual(doer.do(doer.asked(), most), ("worth", number(5)))
        self.assertEqual(doer.calls(), 6)

    def test_what_is_shared_is_called_once(self):
        once = let([("x", give(fun("sum"), ONE))], plus(name("x"), plus(name("x"), name("x"))))
        self.does(doer_of((SUM,), once), 1, number(6), 1)
        twice = ("twice", ("a",), ("times", name("a"), name("a")))
        self.does(doer_of((SUM, twice), give(fun("twice"), give(fun("sum"), ONE))), 2, number(4), 2)
        self.does(doer_of((("five", (), plus(TWO, number(3))),), plus(fun("five"), fun("five"))), 1, number(10), 1)

    def test_calls_of_alike_things_are_one(self):
        calls = plus(give(fun("sum"), name("x")), give(fun("sum"), name("x")))
        self.does(doer_of((SUM,), let([("x", ONE)], calls)), 1, number(4), 1)
        self.does(doer_of((SUM,), plus(give(fun("sum"), ONE), give(fun("sum"), ONE))), 2, number(4), 2)

    def test_what_is_not_wanted_is_not_done(self):
        first = ("first", ("a", "b"), name("a"))
        self.does(doer_of((first, SUM), gives(fun("first"), ONE, give(fun("sum"), ONE))), 1, ONE, 1)
        self.does(doer_of((SUM,), ("when", ONE, TWO, give(fun("sum"), ONE))), 0, TWO, 0)
        self.does(doer_of((SUM,), ("pair", give(fun("sum"), ONE), give(ONE, ONE))), 0, ("pair",), 0)

    def test_more_things_than_wanted(self):
        first = ("first", ("a", "b"), name("a"))
        doer = doer_of((first, SUM), gives(fun("first"), fun("sum"), ONE, TWO))
        self.does(doer, 2, number(3), 2)

    def test_deep_counts_come_to_their_end(self):
        doer = Doer(counting(399))
        self.does(doer, 399, MORE, 399)
        doer = Doer(counting(399))
        self.does(doer, 400, number(399), 400)
        again = give(fun("sums"), less(name("n"), ONE))
        for _ in range(5):
            again = plus(again, ONE)
        deep = ("sums", ("n",), ("when", name("n"), again, ONE))
        self.does(doer_of((deep,), give(fun("sums"), number(399))), 400, number(1 + 399 * 5), 400)

    def test_an_endless_list(self):
        doer = Doer(numbers_from(3))
        self.assertEqual(doer.told(2, 1), ("pair", number(3), ("pair", number(4), ("pair",))))
        self.assertEqual(doer.calls(), 3)
        ones = doer_of((), let([("x", ("pair", ONE, name("x")))], name("x")))
        four = ("pair", ONE, ("pair", ONE, ("pair", ONE, ("pair", ONE, ("pair",)))))
        self.assertEqual((ones.told(4, 0), ones.calls()), (four, 0))


class RingsAndFaults(DoerCase):
    def test_rings_of_lets(self):
        for part in RINGS:
            for most in (0, 400):
                doer = doer_of((), part)
                self.does(doer, most, RING, 0)
                self.assertEqual(doer.do(doer.asked(), 0), RING)

    def test_rings_of_functions_that_want_nothing(self):
        loop = (("f", (), fun("g")), ("g", (), plus(fun("h"), ONE)), ("h", (), fun("f")))
        for most, due, calls in ((0, MORE, 0), (2, MORE, 2), (3, RING, 3), (400, RING, 3)):
            self.does(doer_of(loop, fun("f")), most, due, calls)
        self.does(doer_of((("f", (), fun("f")),), fun("f")), 1, RING, 1)

    def test_rings_of_calls_with_the_same_things_turned_about(self):
        turn = ("turn", ("a", "b"), gives(fun("turn"), name("b"), name("a")))
        self.does(doer_of((turn,), gives(fun("turn"), ONE, TWO)), 2, RING, 2)
        self.does(doer_of((turn,), gives(fun("turn"), ONE, TWO)), 1, MORE, 1)
        self.does(doer_of((turn,), let([("x", ONE)], gives(fun("turn"), name("x"), name("x")))), 1, RING, 1)
        same = ("same", ("a",), plus(give(fun("same"), name("a")), ONE))
        self.does(doer_of((same,), give(fun("same"), ONE)), 1, RING, 1)

    def test_things_that_are_made_anew_are_no_ring(self):
        again = ("again", ("a",), give(fun("again"), plus(name("a"), number(0))))
        self.does(doer_of((again,), give(fun("again"), ONE)), 400, MORE, 400)

    def test_a_ring_goes_ahead_of_more(self):
        doer = doer_of((("f", (), fun("f")),), fun("f"))
        self.does(doer, 0, MORE, 0)
        self.does(doer, 1, RING, 1)
        # The body is under way: its need is a call, but of a node under way.
        body = doer_of((("f", (), fun("f")),), fun("f"))
        self.assertEqual(body.do(body.nodes().node(0, ()), 0), RING)
        self.assertEqual(body.calls(), 0)

    def test_a_kept_node_goes_ahead_of_more(self):
        part = let([("x", ONE)], plus(give(fun("sum"), name("x")), give(fun("sum"), name("x"))))
        self.does(doer_of((SUM,), part), 1, number(4), 1)

    def test_a_ring_is_kept_by_all_that_are_under_way(self):
        program = asked_only(plus(("left", let([("x", plus(name("x"), ONE))], name("x"))), give(ONE, ONE)))
        doer = Doer(program)
        self.does(doer, 0, RING, 0)
        # 0 plus, 1 left, 2 let, 3 x's plus; 4 the name within it, 5 one, 6 the name, 7 give.
        for place in (0, 1, 2, 3):
            self.assertEqual(doer.do(node_at(doer, program, "", place), 0), RING)
        self.assertEqual(doer.do(node_at(doer, program, "", 5), 0), ("worth", ONE))
        self.assertEqual(doer.do(node_at(doer, program, "", 7), 0), ("fault", "function"))

    def test_what_needs_a_kept_ring_keeps_it(self):
        program = asked_only(let([("x", name("x")), ("y", plus(ONE, name("x")))], ("pair", name("x"), name("y"))))
        doer = Doer(program)
        self.assertEqual(doer.told(1, 0), ("pair", RING, RING))
        self.assertEqual(doer.do(node_at(doer, program, "", 2), 0), RING)

    def test_a_ring_of_one_is_not_one_of_all(self):
        # x is under way through the pair's side alone where the pair is done already.
        program = asked_only(let([("x", ("pair", ONE, name("x")))], ("left", ("right", ("right", name("x"))))))
        self.does(Doer(program), 0, ONE, 0)

    def test_a_fault_is_kept_by_all_that_are_under_way(self):
        for part, word in FAULTS:
            program = looked(((("f", ("a",), plus(ONE, name("a"))),), ("left", ("when", ONE, give(fun("f"), part), ONE))))
            doer = Doer(program)
            self.does(doer, 400, ("fault", word), 1)
            self.does(doer, 0, ("fault", word), 1)
            thing = node_at(doer, program, "", 5)
            for node in (node_at(doer, program, "f", 0, (thing,)), node_at(doer, program, "", 1),
                         node_at(doer, program, "", 3), thing):
                self.assertEqual(doer.do(node, 0), ("fault", word))
            self.assertEqual(doer.calls(), 1)

    def test_rings_and_faults_are_told_again_without_a_call(self):
        loop = (("f", ("a",), plus(give(fun("f"), name("a")), ONE)), ("g", ("a",), plus(give(fun("h"), name("a")), ONE)),
                ("h", ("a",), ("left", name("a"))))
        for f, due, calls in (("f", RING, 1), ("g", ("fault", "pair"), 2)):
            doer = doer_of(loop, give(fun(f), ONE))
            self.does(doer, 400, due, calls)
            for most in (0, 400):
                self.does(doer, most, due, calls)

    def test_the_first_fault_is_the_one(self):
        self.does(doer_of((), plus(("left", ONE), give(ONE, ONE))), 0, ("fault", "pair"), 0)
        self.does(doer_of((), plus(ONE, give(ONE, ONE))), 0, ("fault", "function"), 0)
        self.does(doer_of((), plus(("pair", ONE, ONE), give(ONE, ONE))), 0, ("fault", "number"), 0)
        self.does(doer_of((), plus(("pair", ONE, ONE), let([("x", name("x"))], name("x")))), 0, ("fault", "number"), 0)


class Bounds(DoerCase):
    def test_none_one_less_just_as_many_400(self):
        for n in (0, 1, 2, 7, 30):
            for most in (*range(n + 1), n + 1, n + 2, 400):
                if most > n:
                    self.does(Doer(counting(n)), most, number(n), n + 1)
                else:
                    self.does(Doer(counting(n)), most, MORE, most)

    def test_a_bound_is_each_doings_own(self):
        doer = doer_of(CHAIN, ("pair", give(fun("first"), ONE), give(fun("first"), TWO)))
        self.assertEqual(doer.told(1, 3), ("pair", TWO, number(3)))
        self.assertEqual(doer.calls(), 6)

    def test_what_was_under_way_is_not_kept(self):
        doer = doer_of(CHAIN, give(fun("first"), ONE))
        for k in range(1, 5):
            self.does(doer, 2, MORE, 2 * k)
        self.does(doer, 0, MORE, 8)
        self.does(doer, 3, TWO, 11)

    def test_what_was_done_ahead_is_kept(self):
        doer = doer_of(CHAIN, plus(give(fun("first"), ONE), give(fun("first"), TWO)))
        self.does(doer, 2, MORE, 2)
        self.does(doer, 3, MORE, 5)
        self.does(doer, 2, MORE, 7)
        self.does(doer, 3, number(5), 10)

    def test_what_was_done_ahead_is_kept_within_what_was_not(self):
        # Of the things of first that which comes ahead is done in the first call.
        both = ("both", ("a", "b"), plus(give(fun("sum"), name("a")), give(fun("sum"), name("b"))))
        doer = doer_of((SUM, both), gives(fun("both"), ONE, TWO))
        self.does(doer, 2, MORE, 2)
        self.does(doer, 2, number(5), 4)

    def test_more_in_the_places_of_sides(self):
        asked = ("pair", give(fun("third"), ONE), ("pair", give(fun("first"), ONE), give(fun("third"), TWO)))
        doer = doer_of(CHAIN, asked)
        self.assertEqual(doer.told(2, 1), ("pair", TWO, ("pair", MORE, number(3))))
        self.assertEqual(doer.calls(), 3)
        self.assertEqual(doer.told(2, 0), ("pair", TWO, ("pair", MORE, number(3))))
        self.assertEqual(doer.told(2, 3), ("pair", TWO, ("pair", TWO, number(3))))
        self.assertEqual(doer.calls(), 6)


class Told(DoerCase):
    def test_depths(self):
        part = ("pair", ("pair", ONE, ("pair", TWO, ("pair", ONE, ("pair", ONE, ONE)))), ("pair", TWO, fun("sum")))
        doer = doer_of((SUM,), part)
        side = ("pair", TWO, ("function", "sum", 0))
        due = [
            ("pair",), ("pair", ("pair",), ("pair",)), ("pair", ("pair", ONE, ("pair",)), side),
            ("pair", ("pair", ONE, ("pair", TWO, ("pair",))), side),
            ("pair", ("pair", ONE, ("pair", TWO, ("pair", ONE, ("pair",)))), side),
        ]
        for deep in (0, 1, 2, 3, 4, 2, 0):
            self.assertEqual(doer.told(deep, 0), due[deep])

    def test_rings_and_faults_in_the_places_of_sides(self):
        for ring in RINGS:
            for part, word in FAULTS:
                other = let([("z", ("left", name("z")))], name("z"))
                doer = doer_of((), ("pair", ring, ("pair", part, other)))
                self.assertEqual(doer.told(4, 0), ("pair", RING, ("pair", ("fault", word), RING)))
                self.assertEqual(doer.told(1, 0), ("pair", RING, ("pair",)))
                self.assertEqual(doer.told(0, 0), ("pair",))

    def test_numbers_and_functions_are_told_alike_at_all_depths(self):
        for deep in range(5):
            self.assertEqual(doer_of((), ONE).told(deep, 0), ONE)
            self.assertEqual(doer_of((("f", ("a", "b"), ONE),), give(fun("f"), ONE)).told(deep, 0), ("function", "f", 1))

    def test_do_of_any_node_of_the_table(self):
        doer = Doer(counting(3))
        doer.told(0, 400)
        for node in range(doer.nodes().many()):
            come = doer.do(node, 400)
            self.assertIn(come[0], ("worth", "fault"))
            self.assertEqual(doer.do(node, 0), come)

    def test_a_node_that_was_not_under_way(self):
        program = looked(((SUM,), ("pair", give(fun("sum"), ONE), give(fun("sum"), TWO))))
        doer = Doer(program)
        side = node_at(doer, program, "", 4)
        self.assertEqual(doer.do(side, 0), MORE)
        self.assertEqual(doer.do(side, 1), ("worth", number(3)))
        self.assertEqual(doer.calls(), 1)
        self.assertEqual(doer.told(1, 1), ("pair", TWO, number(3)))
        self.assertEqual(doer.calls(), 2)

    def test_a_body_that_is_done_itself_is_no_call(self):
        program = looked(((SUM,), ONE))
        doer = Doer(program)
        self.assertEqual(doer.do(node_at(doer, program, "sum", 0, (doer.asked(),)), 0), ("worth", TWO))
        self.assertEqual(doer.calls(), 0)

    def test_two_doers_are_nothing_to_one_another(self):
        program = counting(4)
        one, other = Doer(program), Doer(program)
        self.does(one, 400, number(4), 5)
        self.does(other, 0, MORE, 0)
        self.assertEqual(other.nodes().many() < one.nodes().many(), True)
        self.does(other, 400, number(4), 5)
        self.assertEqual(one.calls(), 5)
        self.assertEqual(program, counting(4))

    def test_two_doers_tell_the_same(self):
        for program in programs(5000, 60):
            one, other = Doer(program), Doer(program)
            told = [(one.told(deep, most), one.calls()) for deep, most in ((2, 3), (4, 0), (1, 50))]
            self.assertEqual([(other.told(deep, most), other.calls()) for deep, most in ((2, 3), (4, 0), (1, 50))], told)
            nodes = [doer.nodes().told(k) for doer in (one, other) for k in range(doer.nodes().many())]
            self.assertEqual(nodes[:len(nodes) // 2], nodes[len(nodes) // 2:])


class AnotherDoer(DoerCase):
    def test_many_programs_done_by_another_doer(self):
        found = {}
        for program in programs(6000, 600):
            doer, other = Doer(program), PlainDoer(program)
            for deep, most in ((0, 0), (0, 1), (0, 2), (1, 2), (4, 1), (3, 30), (2, 0)):
                told = doer.told(deep, most)
                self.assertEqual((told, doer.calls()), (other.told(deep, most), other.calls))
                found[told[0]] = True
        self.assertEqual(sorted(found), ["fault", "function", "more", "number", "pair", "ring"])

    def test_each_node_keeps_what_another_doer_keeps(self):
        for program in programs(7000, 200):
            doer, other = Doer(program), PlainDoer(program)
            doer.told(2, 20)
            other.told(2, 20)
            kept = sorted(come[:2] if come[0] != "worth" else come[:1] for come in other.kept.values())
            mine = [doer.do(node, 0) for node, _, _ in doer.done()]
            self.assertEqual(sorted(come[:2] if come[0] != "worth" else come[:1] for come in mine), kept)

    def test_what_is_done_is_told_as_it_is_kept(self):
        for program in programs(7500, 100):
            doer = Doer(program)
            doer.told(3, 10)
            done = doer.done()
            numbers = [node for node, _, _ in done]
            self.assertEqual(len(numbers), len(set(numbers)))
            for node, _, come in done:
                self.assertEqual(doer.do(node, 0), come)
            done.clear()
            self.assertEqual([node for node, _, _ in doer.done()], numbers)
