"""Point 27: a desk, row by row."""

import unittest

from lazywebs.desk import Desk
from lazywebs.doing import Doer
from lazywebs.errors import Hidden, LazyError, NoProgram, NoRow, Stranger
from lazywebs.machine import Machine
from lazywebs.plain import plain_told
from lazywebs.reading import read
from lazywebs.room import least_room
from lazywebs.rows import all_rows
from lazywebs.writing import part_text, written
from made import programs

EMPTY = "? 0"
TWICE = "fun twice .a = plus .a .a"
EIGHT = [f"fun {x} = {at}" for at, x in enumerate("abcdefgh")]


def spoken(told):
    """What is told, in a desk's words."""
    if len(told) == 3 and told[0] == "pair":
        return "pair ( " + spoken(told[1]) + " ) ( " + spoken(told[2]) + " )"
    return " ".join(map(str, told))


def desk_of(*rows):
    desk = Desk()
    for row in rows:
        assert desk.say(row) == "ok", row
    return desk


def desk_with(program):
    """A desk that keeps this program: each function is told twice, at first without its body."""
    desk = Desk()
    for f, names, _ in program[0]:
        desk.say(" ".join(["fun", f, *["." + x for x in names], "= 0"]))
    for row in written(program).split("\n")[:-1]:
        desk.say("fun " + row)
    desk.say("ask " + part_text(program[1]))
    return desk


class DeskCase(unittest.TestCase):
    def refused(self, kind, desk, row, name_of=None):
        """That the row is refused, and changes nothing."""
        before = desk.say("show")
        with self.assertRaises(kind) as caught:
            desk.say(row)
        self.assertIs(type(caught.exception), kind, row)
        self.assertIsInstance(caught.exception, LazyError)
        self.assertIsInstance(caught.exception, ValueError)
        if name_of is not None:
            self.assertEqual(caught.exception.name, name_of)
        self.assertEqual(desk.say("show"), before)

    def says(self, desk, *rows):
        for row, answer in rows:
            self.assertEqual(desk.say(row), answer, row)


class Rows(DeskCase):
    def test_at_first(self):
        self.says(Desk(), ("show", EMPTY), ("plain 0 0", "number 0"), ("nodes 0 0", "number 0"), ("web 0 0", "number 0"),
                  ("calls 0", "0 0"), ("room 0 0", "2"), ("show", EMPTY))

    def test_functions_and_what_is_asked(self):
        self.says(Desk(), (TWICE, "ok"), ("show", "twice .a = plus .a .a; ? 0"), ("ask give :twice 21", "ok"),
                  ("show", "twice .a = plus .a .a; ? give :twice 21"), ("plain 0 400", "number 42"), ("nodes 4 400", "number 42"),
                  ("web 0 400", "number 42"), ("calls 400", "1 1"), ("room 0 400", "5"), ("fun none = -7", "ok"),
                  ("show", "twice .a = plus .a .a; none = -7; ? give :twice 21"), ("ask :none", "ok"), ("take twice", "ok"),
                  ("show", "none = -7; ? :none"), ("web 0 1", "number -7"), ("ask 5", "ok"), ("take none", "ok"), ("show", "? 5"))

    def test_a_function_told_anew_stands_in_the_place_of_its_name(self):
        desk = desk_of("fun a = 1", "fun b = 2", "fun c = 3")
        self.says(desk, ("fun b .x .y = .y", "ok"), ("show", "a = 1; b .x .y = .y; c = 3; ? 0"), ("fun a = :c", "ok"),
                  ("show", "a = :c; b .x .y = .y; c = 3; ? 0"), ("fun c = :a", "ok"), ("show", "a = :c; b .x .y = .y; c = :a; ? 0"),
                  ("ask :a", "ok"), ("nodes 0 400", "ring"), ("web 0 400", "ring"), ("plain 0 400", "more"))

    def test_what_is_told_of_each_kind(self):
        desk = desk_of(TWICE, "fun three .a .b .c = .a", "fun wait = plus :wait 1", "fun from .n = pair .n give :from plus .n 1",
                       "fun on .n = give :on plus .n 1")
        for part, deep, most, plain, nodes, web in [
            ("-3", 0, 0, "number -3", "number -3", "number -3"),
            (":three", 0, 0, "function three 0", "function three 0", "function three 0"),
            ("give give :three 1 2", 0, 0, "function three 2", "function three 2", "function three 2"),
            ("pair 1 2", 0, 0, "pair", "pair", "pair"),
            ("pair 1 2", 1, 0, "pair ( number 1 ) ( number 2 )", "pair ( number 1 ) ( number 2 )", "pair ( number 1 ) ( number 2 )"),
            ("left 1", 0, 0, "fault pair", "fault pair", "fault pair"),
            ("give 1 1", 4, 0, "fault function", "fault function", "fault function"),
            ("plus :twice 1", 0, 0, "fault number", "fault number", "fault number"),
            (f"times {10 ** 30} {10 ** 30}", 0, 0, "fault great", "fault great", "fault great"),
            (":wait", 0, 400, "more", "ring", "ring"),
            (":wait", 0, 0, "more", "more", "more"),
            ("give :on 1", 0, 400, "more", "more", "more"),
        ]:
            desk.say("ask " + part)
            self.says(desk, (f"plain {deep} {most}", plain), (f"nodes {deep} {most}", nodes), (f"web {deep} {most}", web))
        desk.say("ask give :from 1")
        due = "pair ( number 1 ) ( pair ( number 2 ) ( pair ( number 3 ) ( pair ) ) )"
        self.says(desk, ("plain 3 400", due), ("nodes 3 400", due), ("web 3 400", due), ("calls 400", "1 1"))
        desk.say("ask pair left 1 pair :wait give :on 1")
        self.says(desk, ("nodes 2 9", "pair ( fault pair ) ( pair ( ring ) ( more ) )"),
                  ("web 2 9", "pair ( fault pair ) ( pair ( ring ) ( more ) )"))

    def test_room_and_no_room(self):
        row = " ".join(f".{x} pair plus .n 1 plus .n 2" for x in "wxyz")
        desk = desk_of(f"fun f .n = when .n let 4 {row} plus give :f less .n 1 1 0", "ask give :f 399")
        self.says(desk, ("web 0 400", "room"), ("room 0 400", "none"), ("room 4 400", "none"), ("nodes 0 400", "number 399"),
                  ("plain 0 5", "more"), ("ask give :f 3", "ok"), ("web 0 400", "number 3"))
        least = int(desk.say("room 0 400"))
        program = read(desk.say("show").replace("; ", "\n"))
        self.assertEqual(least, least_room(program, all_rows(program, True), 0, 400))

    def test_calls_are_told_for_the_nodes_and_then_the_machine(self):
        desk = desk_of("fun inc .n = plus .n 1", "fun f .x = plus give :inc .x give :inc .x", "ask give :f 1")
        self.says(desk, ("plain 0 400", "number 4"), ("calls 400", "2 3"), ("calls 3", "2 3"), ("calls 2", "2 2"), ("calls 1", "1 1"),
                  ("calls 0", "0 0"))

    def test_answers_are_texts(self):
        for row in ("show", TWICE, "ask :twice", "plain 0 0", "nodes 1 2", "web 3 4", "calls 5", "room 0 6"):
            self.assertIs(type(desk_of(TWICE).say(row)), str)


class Refused(DeskCase):
    def test_take_of_a_function_that_is_not_there(self):
        self.refused(Stranger, Desk(), "take twice", "twice")
        self.refused(Stranger, desk_of(TWICE), "take once", "once")
        desk = desk_of(TWICE, "take twice")
        self.refused(Stranger, desk, "take twice", "twice")

    def test_take_of_one_that_is_named_still(self):
        desk = desk_of(TWICE, "ask :twice")
        self.refused(Stranger, desk, "take twice", "twice")
        desk = desk_of(TWICE, "fun b = give :twice 1", "ask :b")
        self.refused(Stranger, desk, "take twice", "twice")
        self.refused(Stranger, desk, "take b", "b")
        self.says(desk, ("ask 1", "ok"), ("take b", "ok"), ("take twice", "ok"), ("show", "? 1"))

    def test_programs_that_would_be_refused(self):
        desk = desk_of(TWICE)
        self.refused(Stranger, desk, "fun f = :g", "g")
        self.refused(Stranger, desk, "fun f .a = .b", "b")
        self.refused(Stranger, desk, "ask .a", "a")
        self.refused(Stranger, desk, "ask plus :twice :g", "g")
        self.refused(Stranger, desk, "fun twice .b = .a", "a")
        self.refused(Hidden, desk, "fun f .a .a = 1", "a")
        self.refused(Hidden, desk, "fun f .a = let 1 .a 1 1", "a")
        self.refused(Hidden, desk, "ask plus let 1 .x 1 .x let 1 .x 2 .x", "x")
        self.says(desk, ("fun f = :f", "ok"), ("show", "twice .a = plus .a .a; f = :f; ? 0"))

    def test_a_ninth_function(self):
        desk = desk_of(*EIGHT)
        self.refused(NoProgram, desk, "fun i = 1")
        self.refused(NoProgram, desk, "fun i = :nine")
        self.refused(NoRow, desk, "fun i = 01")
        self.says(desk, ("fun c = 9", "ok"), ("take a", "ok"), ("fun i = 1", "ok"),
                  ("show", "b = 1; c = 9; d = 3; e = 4; f = 5; g = 6; h = 7; i = 1; ? 0"))

    def test_what_is_no_text(self):
        for thing in (None, True, False, 0, 7, (), [], ("show",), ["show"], (("show",),), ["plain", 0, 400]):
            self.refused(NoRow, Desk(), thing)
        thing = "show"
        for _ in range(29):
            thing = (thing, [thing][:1])
            self.refused(NoRow, Desk(), thing)

    def test_other_words(self):
        desk = desk_of(TWICE, "ask give :twice 2")
        for row in ("", " ", "shows", "Show", "sho", "?", "? 1", "twice .a = plus .a .a", "number 1", "function", "pair", "fault pair", "help",
                    "show\n", "\nshow", "show\nshow", "show;", "; ", "plain\n0 1", "0", "tell 0 1", "more", "take\ttwice", "let", ".a", ":twice"):
            self.refused(NoRow, desk, row)

    def test_words_more_or_fewer(self):
        desk = desk_of(TWICE)
        for row in ("show 1", "show show", "take", "take twice twice", "ask", "ask 1 1", "ask plus 1", "ask plus 1 1 1", "fun", "fun f", "fun f =",
                    "fun f .a", "fun = 1", "fun f 1", "fun f = 1 1", "fun fun f = 1", "plain", "plain 0", "plain 0 1 2", "nodes", "nodes 0",
                    "nodes 0 1 2", "web", "web 0", "web 0 1 2", "calls", "calls 0 1", "room", "room 0", "room 0 1 2"):
            self.refused(NoRow, desk, row)

    def test_blanks_more(self):
        desk = desk_of(TWICE)
        for row in ("show", "take twice", "ask 1", "fun f .a = plus .a 1", "plain 0 1", "nodes 0 1", "web 0 1", "calls 1", "room 0 1"):
            for at in [-1] + [at for at, sign in enumerate(row) if sign == " "]:
                self.refused(NoRow, desk, row[:at + 1] + " " + row[at + 1:])
            self.refused(NoRow, desk, row + " ")
            desk_of(TWICE).say(row)

    def test_depths_and_bounds(self):
        desk = desk_of(TWICE)
        for way in ("plain", "nodes", "web", "room"):
            for deep in ("5", "-1", "-0", "00", "01", "+1", "a", ".a", "1.", "04", "10", "1" * 61, "1" * 5000, "0x1", ""):
                self.refused(NoRow, desk, f"{way} {deep} 1")
            for most in ("401", "-1", "-0", "00", "01", "0400", "+1", "a", "4e2", "400.", "1" * 61, "1" * 5000, ""):
                self.refused(NoRow, desk, f"{way} 0 {most}")
            for deep in "01234":
                for most in ("0", "1", "400"):
                    self.assertIs(type(desk.say(f"{way} {deep} {most}")), str)
        for most in ("401", "-1", "-0", "00", "01", "+1", "a", "1" * 61, ""):
            self.refused(NoRow, desk, f"calls {most}")
        self.says(desk, ("calls 0", "0 0"), ("calls 400", "0 0"))

    def test_what_goes_beyond_a_bound_in_its_own_words(self):
        desk = desk_of(TWICE)
        for part in ("1" * 61, "-" + "1" * 61, "left " * 12 + "1", "pair " * 30 + "1 " * 30 + "1", ".abcdefghi", ":abcdefghi", "let 0 1",
                     "let 5 .a 1 .b 1 .c 1 .d 1 .e 1 .a", "-0", "01", "x", ".", "?", "let 1 .X 1 1"):
            self.refused(NoRow, desk, "ask " + part)
            self.refused(NoRow, desk, "fun f = " + part)
            self.refused(NoRow, desk, "fun twice .a = " + part)
        for row in ("fun abcdefghi = 1", "fun F = 1", "fun ? = 1", "fun f .a .b .c .d .e = 1", "fun ? 1", "fun f .A = 1", "fun :f = 1",
                    "take abcdefghi", "take F", "take .a", "take :twice", "take", "take ?", "take 1", "take "):
            self.refused(NoRow, desk, row)
        wide = "1"
        for _ in range(5):
            wide = f"pair {wide} {wide}"
        self.refused(NoRow, desk, "ask " + wide)
        self.says(desk, ("ask " + "left " * 11 + "1", "ok"))

    def test_no_line_ends_within_a_row(self):
        desk = Desk()
        for row in ("fun f = 1\n? 1", "ask 1\n", "fun f = 1\n", "ask\n1", "take f\n", "plain 0 1\n"):
            self.refused(NoRow, desk, row)


class Keeps(DeskCase):
    def test_it_tells_what_the_other_files_tell(self):
        for program in programs(80000, 250):
            desk = desk_with(program)
            rows = all_rows(program, True)
            self.assertEqual(desk.say("show"), written(program).replace("\n", "; "))
            for deep, most in ((0, 30), (2, 3), (4, 9)):
                doer, machine = Doer(program), Machine(program, rows, 4000, [])
                least = least_room(program, rows, deep, most)
                self.says(desk, (f"plain {deep} {most}", spoken(plain_told(program, deep, most))),
                          (f"nodes {deep} {most}", spoken(doer.told(deep, most))), (f"web {deep} {most}", spoken(machine.told(deep, most))),
                          (f"room {deep} {most}", "none" if least is None else str(least)))
                doer, machine = Doer(program), Machine(program, rows, 4000, [])
                doer.told(0, most)
                machine.do(most)
                self.says(desk, (f"calls {most}", f"{doer.calls()} {machine.calls()}"))

    def test_asking_changes_nothing(self):
        desk = desk_of("fun count .n = when .n plus 1 give :count less .n 1 0", "ask give :count 5")
        rows = ("show", "plain 0 400", "nodes 0 3", "nodes 0 400", "web 0 3", "web 0 400", "calls 3", "calls 400", "room 0 400", "room 0 3")
        first = [desk.say(row) for row in rows]
        for _ in range(2):
            self.assertEqual([desk.say(row) for row in rows], first)
        self.assertEqual(first[1:6], ["number 5", "more", "number 5", "more", "number 5"])

    def test_two_desks_are_nothing_to_one_another(self):
        one, other = Desk(), Desk()
        one.say(TWICE)
        one.say("ask :twice")
        self.says(other, ("show", EMPTY), ("fun none = 1", "ok"), ("show", "none = 1; ? 0"))
        self.says(one, ("show", "twice .a = plus .a .a; ? :twice"))
        self.says(Desk(), ("show", EMPTY))

    def test_rows_behind_one_that_was_refused(self):
        desk = desk_of(TWICE, "ask give :twice 1")
        for row in ("fun twice = .x", "ask :once", "take twice", "take once", "fun twice .a", "plain 5 5", None):
            self.assertRaises(LazyError, desk.say, row)
            self.says(desk, ("show", "twice .a = plus .a .a; ? give :twice 1"), ("web 0 400", "number 2"))
