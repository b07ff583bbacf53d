"""Point 25: how programs are written."""

import unittest

from lazywebs.looks import looked
from lazywebs.writing import part_text, written
from made import asked_only, gives, plus, programs
from samples import ONE, SAMPLE, fun, give, let, name, number

TWO = number(2)


class Parts(unittest.TestCase):
    def test_each_kind(self):
        for part, text in [
            (number(0), "0"), (number(7), "7"), (number(-7), "-7"), (number(10 ** 60 - 1), "9" * 60),
            (number(1 - 10 ** 60), "-" + "9" * 60), (number(10 ** 59), "1" + "0" * 59),
            (name("x"), ".x"), (name("abcdefgh"), ".abcdefgh"), (fun("f"), ":f"), (fun("plus"), ":plus"),
            (give(fun("f"), ONE), "give :f 1"), (plus(ONE, TWO), "plus 1 2"), (("less", ONE, TWO), "less 1 2"),
            (("times", ONE, TWO), "times 1 2"), (("below", TWO, ONE), "below 2 1"), (("when", number(0), ONE, TWO), "when 0 1 2"),
            (("pair", TWO, ONE), "pair 2 1"), (("left", name("p")), "left .p"), (("right", name("p")), "right .p"),
        ]:
            self.assertEqual(part_text(part), text)

    def test_parts_within_parts(self):
        self.assertEqual(part_text(plus(plus(ONE, TWO), ("left", ("pair", TWO, ONE)))), "plus plus 1 2 left pair 2 1")
        self.assertEqual(part_text(gives(fun("f"), ONE, give(fun("g"), TWO))), "give give :f 1 give :g 2")
        self.assertEqual(part_text(("when", ("below", ONE, TWO), ("right", ONE), ("times", TWO, TWO))),
                         "when below 1 2 right 1 times 2 2")

    def test_lets_of_one_to_four_rows(self):
        rows = [("w", ONE), ("x", plus(ONE, TWO)), ("y", name("x")), ("z", let([("v", TWO)], name("v")))]
        texts = [".w 1", ".x plus 1 2", ".y .x", ".z let 1 .v 2 .v"]
        for many in (1, 2, 3, 4):
            self.assertEqual(part_text(let(rows[:many], plus(name("w"), name("w")))),
                             f"let {many} {' '.join(texts[:many])} plus .w .w")
        self.assertEqual(part_text(plus(let([("x", ONE)], name("x")), TWO)), "plus let 1 .x 1 .x 2")


class Programs(unittest.TestCase):
    def test_programs(self):
        twice = ("twice", ("a",), plus(name("a"), name("a")))
        self.assertEqual(written(asked_only(ONE)), "? 1")
        self.assertEqual(written(looked(((twice,), give(fun("twice"), TWO)))), "twice .a = plus .a .a\n? give :twice 2")
        four = ("four", ("a", "b", "c", "d"), name("d"))
        none = ("none", (), number(-1))
        self.assertEqual(written(looked(((four, none), fun("none")))), "four .a .b .c .d = .d\nnone = -1\n? :none")
        self.assertEqual(written(looked(((none, four), fun("four")))), "none = -1\nfour .a .b .c .d = .d\n? :four")
        self.assertEqual(written(SAMPLE).split("\n"), [
            "none = plus times 2 3 4", "one .a = let 2 .m .a .n left .m pair .n :two", "two .a .b = when .b less .b .a :none",
            "three .a .b .c = below .a let 1 .d .c let 1 .e .d right .e", "? give :one times 5 5",
        ])

    def test_single_blanks_and_line_ends_between_rows_alone(self):
        for program in programs(60000, 300):
            text = written(program)
            self.assertNotIn("  ", text)
            for row in text.split("\n"):
                self.assertEqual(row, row.strip())
                self.assertNotEqual(row, "")
            self.assertEqual(text.count("\n"), len(program[0]))
            self.assertEqual(text.split("\n")[-1], "? " + part_text(program[1]))

    def test_the_same_again_and_the_program_stays(self):
        self.assertEqual([written(SAMPLE)] * 2, [written(SAMPLE), written(SAMPLE)])
        self.assertEqual(looked(SAMPLE), SAMPLE)
