"""Point 4: the parts within a part, how many there are, how deep it is."""

import unittest

from lazywebs.parts import deep_in, many_in, within
from samples import EACH_KIND, ONE, let, name, number, of_depth, of_many


class Within(unittest.TestCase):
    def test_each_kind(self):
        for part, inner, _, _ in EACH_KIND:
            told = within(part)
            self.assertEqual(told, inner, part)
            self.assertIs(type(told), list)

    def test_rows_parts_come_first_in_their_order(self):
        rows = [("d", number(4)), ("c", number(3)), ("b", number(2)), ("a", number(1))]
        for many in range(1, 5):
            told = within(let(rows[:many], number(9)))
            self.assertEqual(told, [part for _, part in rows[:many]] + [number(9)])

    def test_a_let_within_a_let_is_not_gone_into(self):
        inner = let([("y", number(2))], name("y"))
        self.assertEqual(within(let([("x", inner)], number(3))), [inner, number(3)])
        self.assertEqual(within(let([("x", number(3))], inner)), [number(3), inner])
        self.assertEqual(within(inner), [number(2), name("y")])

    def test_alike_parts_are_all_told(self):
        self.assertEqual(within(("when", ONE, ONE, ONE)), [ONE, ONE, ONE])

    def test_the_list_is_the_askers_own(self):
        for part, inner, _, _ in EACH_KIND:
            told = within(part)
            told.append("more")
            told[0] = "other"
            self.assertEqual(within(part), inner)
            self.assertIsNot(within(part), within(part))


class ManyAndDeep(unittest.TestCase):
    def test_each_kind(self):
        for part, _, many, deep in EACH_KIND:
            self.assertEqual((many_in(part), deep_in(part)), (many, deep), part)
            self.assertIs(type(many_in(part)), int)
            self.assertIs(type(deep_in(part)), int)

    def test_lets_one_within_another(self):
        inner = let([("y", ("left", number(1))), ("z", number(2))], name("y"))
        self.assertEqual((many_in(inner), deep_in(inner)), (5, 3))
        outer = let([("x", inner)], name("x"))
        self.assertEqual((many_in(outer), deep_in(outer)), (7, 4))
        outer = let([("x", number(1))], inner)
        self.assertEqual((many_in(outer), deep_in(outer)), (7, 4))

    def test_up_to_the_bounds_and_beyond(self):
        for deep in range(1, 21):
            self.assertEqual(deep_in(of_depth(deep)), deep)
            self.assertEqual(many_in(of_depth(deep)), deep)
        for many in range(1, 201):
            self.assertEqual(many_in(of_many(many)), many)

    def test_a_part_that_stands_twice_is_counted_twice(self):
        part = ("pair", ONE, ONE)
        self.assertEqual(many_in(("pair", part, part)), 7)
        self.assertEqual(deep_in(("pair", part, part)), 3)

    def test_the_same_is_told_again(self):
        for part, _, many, deep in EACH_KIND:
            for _ in range(2):
                self.assertEqual((many_in(part), deep_in(part)), (many, deep))
