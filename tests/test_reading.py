"""Point 26: texts read, and the first word that can't stand where it stands."""

import random
import unittest

from lazywebs import errors
from lazywebs.errors import Hidden, LazyError, NoText, Stranger, Twice
from lazywebs.reading import read
from lazywebs.writing import written
from made import asked_only, plus, programs
from plainreading import outcome
from samples import ONE, SAMPLE, fun, give, let, name, number

SIGNS = " -+.:=?017abz;A~\n_"


class ReadCase(unittest.TestCase):
    def wrong(self, text, row, word):
        with self.assertRaises(NoText) as caught:
            read(text)
        self.assertEqual((caught.exception.row, caught.exception.word), (row, word), text)
        self.assertIs(type(caught.exception), NoText)
        self.assertIsInstance(caught.exception, LazyError)
        self.assertIsInstance(caught.exception, ValueError)

    def asked(self, text, word):
        """Of a body, the word counted from its first one on."""
        self.wrong("? " + text, 0, word + 1)
        self.wrong("f = 1\n? " + text, 1, word + 1)
        self.wrong("f = " + text + "\n? 1", 0, word + 2)
        self.wrong("f .a .b = " + text + "\n? 1", 0, word + 4)

    def right(self, text, program):
        self.assertEqual(read(text), program)
        self.assertEqual(written(program), text)


class Right(ReadCase):
    def test_each_kind_of_part(self):
        for text, part in [
            ("0", number(0)), ("-1", number(-1)), ("10", number(10)), ("9" * 60, number(10 ** 60 - 1)), ("-" + "9" * 60, number(1 - 10 ** 60)),
            ("plus 1 1", plus(ONE, ONE)), ("less 1 1", ("less", ONE, ONE)), ("times 1 1", ("times", ONE, ONE)), ("below 1 1", ("below", ONE, ONE)),
            ("when 1 1 0", ("when", ONE, ONE, number(0))), ("pair 1 0", ("pair", ONE, number(0))), ("left 1", ("left", ONE)), ("right 1", ("right", ONE)),
            ("give 1 0", give(ONE, number(0))), ("let 1 .x 1 .x", let([("x", ONE)], name("x"))),
            ("let 4 .x .y .y .z .z .w .w 1 .x", let([("x", name("y")), ("y", name("z")), ("z", name("w")), ("w", ONE)], name("x"))),
        ]:
            self.right("? " + text, asked_only(part))
        self.right("f = 1\n? :f", ((("f", (), ONE),), fun("f")))

    def test_functions(self):
        self.right("twice .a = plus .a .a\n? give :twice 2", ((("twice", ("a",), plus(name("a"), name("a"))),), give(fun("twice"), number(2))))
        self.right("f .a .b .c .d = .d\n? :f", ((("f", ("a", "b", "c", "d"), name("d")),), fun("f")))
        # Words of kinds are names too, and names may be used again in another function.
        self.right("plus .let = give :let .let\nlet .let = .let\n? :plus",
                   ((("plus", ("let",), give(fun("let"), name("let"))), ("let", ("let",), name("let"))), fun("plus")))
        self.right("abcdefgh .abcdefgh = .abcdefgh\n? 1", ((("abcdefgh", ("abcdefgh",), name("abcdefgh")),), ONE))

    def test_what_is_written_is_read(self):
        for program in programs(61000, 800) + [SAMPLE]:
            told = read(written(program))
            self.assertEqual(told, program)
            self.assertEqual(repr(told), repr(program))
            self.assertEqual(written(told), written(program))

    def test_the_greatest(self):
        parts = "pair " * 29 + "1 " * 29 + "left 1"
        chain = "left " * 11 + "1"
        lets = "".join(f"let 1 .{x} " for x in "abcdefghij") + "left 1" + " 1" * 10
        for body in (chain, lets, wide(60)):
            read("? " + body)
        self.asked(parts, 12)
        row = "abcdefg{} .a .b .c .d = 1"
        eight = "\n".join(row.format(x) for x in "abcdefgh")
        self.assertEqual(len(read(eight + "\n? 1")[0]), 8)


class Wrong(ReadCase):
    def test_numbers(self):
        for word in ("-0", "+1", "00", "01", "-01", "1" * 61, "-" + "1" * 61, "1" * 5000, "-", "--1", "1-", "1.", "1a", "0x1", "1_0", " ", "0-", "-a"):
            self.asked(word, 0)
            self.asked("plus " + word + " 1", 1)
            self.asked("plus 1 " + word, 2)

    def test_names(self):
        for word in (".", ".abcdefghi", ".A", ".aB", ".a1", "..a", ".a.", ":", ":abcdefghi", ":F", ":f:", ":.f", ".:f", "a", "abc", "x.", ".a-b"):
            self.asked(word, 0)
            self.asked("pair " + word + " 1", 1)
        for word in ("Abc", "abcdefghi", "a1", ".a", ":a", "1", "=", "", "-", "a-b", "??", "a?"):
            self.wrong(word + " = 1\n? 1", 0, 0)
            self.wrong("f = 1\n" + word + " = 1\n? 1", 1, 0)

    def test_names_of_things(self):
        for word in (".", ".abcdefghi", ".A", "a", ":a", "", "1", "?", "==", "plus"):
            self.wrong("f " + word + " = 1\n? 1", 0, 1)
            self.wrong("f .a .b " + word + " = 1\n? 1", 0, 3)
        self.wrong("f .a .b .c .d .e = 1\n? 1", 0, 5)
        self.wrong("f .a = = 1\n? 1", 0, 3)
        self.wrong("f .a .b .c .d 1 = 1\n? 1", 0, 5)
        self.wrong("? = 1", 0, 1)
        self.wrong("? .a = 1", 0, 2)

    def test_lets(self):
        for word in ("0", "5", "-1", "01", "10", ".x", "let", "", "one", "1 "):
            self.asked("let " + word + " .x 1 .x", 1 if word != "1 " else 2)
        self.asked("let 1 x 1 1", 2)
        self.asked("let 1 :x 1 1", 2)
        self.asked("let 1 1 1", 2)
        self.asked("let 1 .x = 1", 3)
        self.asked("let 2 .x 1 .y 1", 6)
        self.asked("let 2 .x 1 1", 4)
        self.asked("let 1 .x 1 .y 1", 5)
        self.asked("let", 1)
        self.asked("let 1", 2)
        self.asked("let 1 .x", 3)
        self.asked("let 1 .x 1", 4)

    def test_too_few_words(self):
        for text, word in [("plus", 1), ("plus 1", 2), ("plus plus 1 1", 4), ("when 1 1", 3), ("left", 1), ("give :f", 2)]:
            self.asked(text, word)
        self.wrong("f", 0, 1)
        self.wrong("f .a", 0, 2)
        self.wrong("f .a .b .c .d", 0, 5)
        self.wrong("f .a =", 0, 3)
        self.wrong("?", 0, 1)
        self.wrong("f = 1\n?", 1, 1)
        self.wrong("f\n? 1", 0, 1)

    def test_too_many_words(self):
        for text, word in [("1 1", 1), ("plus 1 1 1", 3), ("left 1 left", 2), ("let 1 .x 1 .x .x", 5), ("1 ?", 1), ("1 =", 1)]:
            self.asked(text, word)

    def test_blanks(self):
        for text, row, word in [
            (" ? 1", 0, 0), ("?  1", 0, 1), ("? 1 ", 0, 2), ("? plus  1 1", 0, 2), ("? plus 1  1", 0, 3), ("? plus 1 1 ", 0, 4), ("? ", 0, 1),
            (" ", 0, 0), ("  ", 0, 0), ("f  = 1\n? 1", 0, 1), ("f =  1\n? 1", 0, 2), ("f = 1 \n? 1", 0, 3), (" f = 1\n? 1", 0, 0), ("f = 1\n ? 1", 1, 0),
            ("f .a  .b = 1\n? 1", 0, 2), ("f = 1\n? 1 ", 1, 2), ("? \t1", 0, 1), ("?\t1", 0, 0),
        ]:
            self.wrong(text, row, word)

    def test_rows_without_words(self):
        for text, row in [("", 0), ("\n", 0), ("\n? 1", 0), ("f = 1\n\n? 1", 1), ("? 1\n", 1), ("f = 1\n? 1\n", 2), ("? 1\n\n", 1)]:
            self.wrong(text, row, 0)

    def test_the_last_row_is_not_that_of_asked(self):
        self.wrong("f = 1", 1, 0)
        self.wrong("f = 1\ng .a = .a", 2, 0)
        self.wrong("\n".join(f"{x} = 1" for x in "abcdefgh"), 8, 0)

    def test_a_row_behind_that_of_asked(self):
        for behind in ("? 1", "f = 1", "", " ", "?", "f", "1"):
            self.wrong("? 1\n" + behind, 1, 0)
            self.wrong("f = 1\n? 1\n" + behind, 2, 0)
            self.wrong("f = 1\n? 1\n" + behind + "\n" + behind, 2, 0)
        self.wrong("? 1 1\n? 1", 0, 2)

    def test_a_ninth_function(self):
        eight = "\n".join(f"{x} = 1" for x in "abcdefgh")
        for ninth in ("i = 1", "a = 1", "i", "i =", "i = = ="):
            self.wrong(eight + "\n" + ninth + "\n? 1", 8, 0)
        self.wrong(eight.replace("c = 1", "c = 01") + "\ni = 1\n? 1", 2, 2)
        self.wrong(eight + "\n? 01", 8, 1)

    def test_the_sixty_first_part(self):
        for body, first in ((wide(61), 61), (wide(62), 61), (wide(61).replace("1", ".x"), 61)):
            words = body.split(" ")
            self.asked(body, first - 1)
            self.assertGreaterEqual(len(words), first)
        self.assertEqual(len(written(read("? " + wide(60))).split(" ")), 61)
        # Its word is that of the part's kind: of a let the word let.
        self.asked(wide(61, "let 1 .x 1 .x"), 60)
        # The words of a let that are no part's words are not counted.
        lets = "let 4 .a 1 .b 1 .c 1 .d 1 "
        body = lets + "pair " + wide(27) + " " + wide(27)
        self.assertEqual(len(read("? " + body)[1][1]), 4)
        self.asked(lets + "pair " + wide(27) + " " + wide(29), len(lets.split()) + 1 + 27 + 27)

    def test_the_thirteenth_depth(self):
        self.asked("left " * 12 + "1", 12)
        self.asked("left " * 13 + "1", 12)
        self.asked("left " * 12 + "let 1 .x 1 .x", 12)
        self.asked("plus 1 " * 12 + "1", 23)
        self.asked("let 1 .x 1 " * 12 + ".x", 47)
        self.asked("let 1 .x " * 12 + "1" + " 1" * 12, 36)
        self.asked("left " * 12, 12)
        read("? " + "left " * 11 + "1")
        self.asked("pair " + "left " * 10 + "left 1", 12)

    def test_the_first_of_several(self):
        self.wrong("f = plus 1 x y\n? 01", 0, 4)
        self.wrong("f = 1\ng = 1 1\nh = 01\n? 1", 1, 3)
        self.wrong("F = x\n? 1", 0, 0)
        self.wrong("f = .y\nf = 1\n? 01", 2, 1)


def wide(many, last="1"):
    """A body of so many parts, none deeper than a dozen, with this part last."""
    if many == 1:
        return last
    if many == 2:
        return "left " + last
    ahead = (many - 1) // 2
    return f"pair {wide(ahead)} {wide(many - 1 - ahead, last)}"


class Refused(unittest.TestCase):
    def refused(self, kind, name_of, text):
        with self.assertRaises(kind) as caught:
            read(text)
        self.assertIs(type(caught.exception), kind)
        self.assertIsInstance(caught.exception, LazyError)
        self.assertIsInstance(caught.exception, ValueError)
        self.assertEqual(caught.exception.name, name_of)

    def test_twice(self):
        self.refused(Twice, "f", "f = 1\nf = 1\n? 1")
        self.refused(Twice, "g", "f = .x\ng .a .a = 1\ng = 1\nf = 1\n? 1")

    def test_hidden(self):
        self.refused(Hidden, "a", "f .a .a = 1\n? 1")
        self.refused(Hidden, "a", "f .a = let 1 .a 1 .b\n? .c")
        self.refused(Hidden, "x", "? plus let 1 .x 1 .x let 1 .x 1 .x")

    def test_stranger(self):
        self.refused(Stranger, "b", "f .a = .b\n? 1")
        self.refused(Stranger, "g", "f .a = plus :g .b\n? 1")
        self.refused(Stranger, "a", "f .a = .a\n? .a")
        self.refused(Stranger, "x", "? plus let 1 .x 1 .x .x")

    def test_forms_are_ahead_of_names(self):
        for text in ("f = .y\nf = 1\n? 1 1", "f .a .a = 1\n?"):
            self.assertRaises(NoText, read, text)


class Changed(unittest.TestCase):
    """Beside a reading worked out another way."""

    def check(self, text, counts):
        due = outcome(text)
        try:
            told = read(text)
        except LazyError as refused:
            kind = type(refused).__name__
            where = (refused.row, refused.word) if kind == "NoText" else (refused.name,)
            self.assertEqual((kind, *where), due, text)
        else:
            kind = "told"
            self.assertEqual(due, ("told", told), text)
            self.assertEqual(repr(told), repr(due[1]))
            self.assertEqual(written(told), text)
        counts[kind] = counts.get(kind, 0) + 1

    def test_each_sign_left_out_changed_or_put_in(self):
        counts, turns = {}, random.Random(8)
        for program in programs(62000, 14) + [SAMPLE]:
            text = written(program)
            for at in range(len(text)):
                self.check(text[:at] + text[at + 1:], counts)
                for sign in turns.sample(SIGNS, 3):
                    self.check(text[:at] + sign + text[at:], counts)
                    self.check(text[:at] + sign + text[at + 1:], counts)
        for kind in ("told", "NoText", "Stranger", "Hidden"):
            self.assertGreater(counts[kind], 5, counts)

    def test_each_word_left_out_twice_another_or_exchanged(self):
        counts = {}
        others = ["plus", "let", "left", "when", "1", "0", "-3", "4", ".a", ".va", ":f", ":g", "=", "?", "f", "", "\n", "let 1 .q 1", "left left left"]
        for program in programs(63000, 20) + [SAMPLE]:
            words = written(program).replace("\n", " \n ").split(" ")
            for at, word in enumerate(words):
                changed = [words[:at] + words[at + 1:], words[:at] + [word, word] + words[at + 1:]]
                changed += [words[:at] + [other] + words[at + 1:] for other in others]
                changed += [words[:at] + [other] + words[at:] for other in others]
                if at:
                    changed.append(words[:at - 1] + [word, words[at - 1]] + words[at + 1:])
                for one in changed:
                    self.check(" ".join(one).replace(" \n ", "\n"), counts)
        for kind in ("told", "NoText", "Stranger", "Hidden", "Twice"):
            self.assertGreater(counts[kind], 5, counts)

    def test_rows_left_out_twice_or_exchanged(self):
        counts = {}
        for program in programs(64000, 200):
            rows = written(program).split("\n")
            for at, row in enumerate(rows):
                self.check("\n".join(rows[:at] + rows[at + 1:]), counts)
                for many in (2, 9):
                    self.check("\n".join(rows[:at] + [row] * many + rows[at + 1:]), counts)
                if at:
                    self.check("\n".join(rows[:at - 1] + [row, rows[at - 1]] + rows[at + 1:]), counts)
        self.assertGreater(counts["Twice"], 50)

    def test_texts_that_are_cut(self):
        counts = {}
        for program in programs(65000, 40):
            text = written(program)
            for at in range(len(text)):
                self.check(text[:at], counts)
                self.check(text[at:], counts)

    def test_great_bodies_cut_and_grown(self):
        counts = {}
        for many in range(55, 65):
            for last in ("1", "let 1 .x 1 .x", "let 2 .x .y .y 1 .x", "plus 1 .z"):
                self.check("? " + wide(many, last), counts)
                self.check("f = " + wide(many, last) + "\n? 1", counts)
        for deep in range(9, 15):
            for step in ("left ", "plus 1 ", "let 1 .x 1 ", "when 1 1 "):
                self.check("? " + step * deep + "1", counts)

    def test_errors_are_of_the_modules_classes(self):
        self.assertTrue(issubclass(errors.NoText, errors.LazyError))
        self.assertEqual(errors.NoText.__bases__, (errors.LazyError,))
