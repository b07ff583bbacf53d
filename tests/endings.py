"""Point 17 from the other side: all endings of bodies, and ones by draws."""

import itertools

from plainrows import HEAVY, SUMS, Matcher


class Ends:
    """Tells of a function all its rows that are let by."""

    def __init__(self, names, body):
        self.matcher = Matcher(names, body, False)
        self.body = body

    def ways(self, part, want):
        """All doings of the part by the want, its endings where that is None."""
        done = () if want is None else (("do", want),)
        kind = part[0]
        found = [self.matcher.build(part) + done]
        if kind in SUMS:
            both = itertools.product(self.ways(part[1], "number"), self.ways(part[2], "number"))
            found += [a + b + (("now", kind),) + (done if want == "pair" else ()) for a, b in both]
        elif kind == "when":
            three = itertools.product(self.ways(part[1], "number"), self.ways(part[2], want), self.ways(part[3], want))
            found += [a + (("turn", b, c),) for a, b, c in three]
        elif kind in ("left", "right"):
            found += [a + (("side", kind),) + done for a in self.ways(part[1], "pair")]
        elif kind == "let":
            found = [self.matcher.ties(part) + inner for inner in self.ways(part[2], want)]
        return found

    def drawn(self, part, want, turns):
        """One of the ways, by draws."""
        done = () if want is None else (("do", want),)
        kind = part[0]
        if kind == "let":
            return self.matcher.ties(part) + self.drawn(part[2], want, turns)
        if kind not in HEAVY or turns.random() < 0.4:
            return self.matcher.build(part) + done
        if kind in SUMS:
            both = self.drawn(part[1], "number", turns) + self.drawn(part[2], "number", turns)
            return both + (("now", kind),) + (done if want == "pair" else ())
        if kind == "when":
            rows = [self.drawn(inner, want, turns) for inner in part[2:]]
            return self.drawn(part[1], "number", turns) + (("turn", *rows),)
        return self.drawn(part[1], "pair", turns) + (("side", kind),) + done


def of_function(program, f):
    return {name: Ends(names, body) for name, names, body in [*program[0], ("", (), program[1])]}[f]


def names_of(program):
    return [function[0] for function in program[0]] + [""]


def all_endings(program, f):
    """All rows of the function that are let by."""
    ends = of_function(program, f)
    return [rows + (("back",),) for rows in ends.ways(ends.body, None)]


def drawn_rows(program, turns):
    """Rows of all functions, between the built ones and the lean ones."""
    found = []
    for f in names_of(program):
        ends = of_function(program, f)
        found.append(ends.drawn(ends.body, None, turns) + (("back",),))
    return tuple(found)
