"""Points 16 to 18 worked out another way, to compare: what rows match, and what they do."""

LIMIT = 10 ** 60
HEAVY = ("plus", "less", "times", "below", "when", "left", "right", "let")
SUMS = ("plus", "less", "times", "below")


def lets_in(part):
    """The names of lets' rows in the order in which locals are numbered."""
    if part[0] == "let":
        found = [x for x, _ in part[1]]
        for _, inner in part[1]:
            found += lets_in(inner)
        return found + lets_in(part[2])
    found = []
    for inner in part[1:]:
        if isinstance(inner, tuple):
            found += lets_in(inner)
    return found


class Matcher:
    """Tells where in steps an ending or a doing of a part may come to its end."""

    def __init__(self, names, body, is_lean):
        self.names = list(names)
        self.locals = lets_in(body)
        self.is_lean = is_lean

    def build(self, part):
        kind = part[0]
        if kind == "name":
            if part[1] in self.names:
                return (("thing", self.names.index(part[1])),)
            return (("local", self.locals.index(part[1])),)
        if kind in ("number", "fun"):
            return (part,)
        if kind == "let":
            return self.ties(part) + self.build(part[2])
        steps = ()
        for inner in part[1:]:
            steps += self.build(inner)
        return steps + ((kind,),)

    def ties(self, part):
        first = self.locals.index(part[1][0][0])
        steps = (("room", first, len(part[1])),)
        for k, (_, inner) in enumerate(part[1]):
            steps += self.build(inner) + (("tie", first + k),)
        return steps

    def behind(self, steps, ends, more):
        """The ends behind these more steps, of those where they stand."""
        return {at + len(more) for at in ends if steps[at:at + len(more)] == more}

    def ends(self, steps, at, part, want):
        """want None: of the endings; else of the doings by the want."""
        kind = part[0]
        do = () if want is None else (("do", want),)
        found = set()
        if kind not in HEAVY or not self.is_lean:
            found |= self.behind(steps, {at}, self.build(part) + do)
        if kind in SUMS:
            both = {end for mid in self.ends(steps, at, part[1], "number")
                    for end in self.ends(steps, mid, part[2], "number")}
            found |= self.behind(steps, both, (("now", kind),) + (do if want == "pair" else ()))
        elif kind in ("left", "right"):
            found |= self.behind(steps, self.ends(steps, at, part[1], "pair"), (("side", kind),) + do)
        elif kind == "let":
            for mid in self.behind(steps, {at}, self.ties(part)):
                found |= self.ends(steps, mid, part[2], want)
        elif kind == "when":
            for mid in self.ends(steps, at, part[1], "number"):
                if mid < len(steps) and steps[mid][0] == "turn":
                    _, yes, no = steps[mid]
                    if len(yes) in self.ends(yes, 0, part[2], want) and len(no) in self.ends(no, 0, part[3], want):
                        found.add(mid + 1)
        return found


def fits(program, f, rows, is_lean):
    """Whether they are rows of the function, lean ones where that is asked."""
    names, body = {name: (names, body) for name, names, body in [*program[0], ("", (), program[1])]}[f]
    matcher = Matcher(names, body, is_lean)
    return rows[-1] == ("back",) and len(rows) - 1 in matcher.ends(rows[:-1], 0, body, None)


class Stop(Exception):
    """A fault, a ring or more."""


class PlainMachine:
    """Goes by rows; its cells are lists that are written over. Nothing is swept."""

    def __init__(self, program, rows):
        names = [f for f, _, _ in program[0]] + [""]
        self.rows = dict(zip(names, rows))
        self.wants = {f: len(things) for f, things, _ in program[0]}
        self.whole = {f: ["call", f] for f, wanted in self.wants.items() if wanted == 0}
        self.asked = ["call", ""]
        self.calls = 0
        self.bound = 0
        self.marked = []

    def do(self, cell):
        """The cell in the end, done to its worth."""
        passed = []
        while cell[0] == "same":
            if any(cell is one for one in passed):
                raise Stop("ring")
            passed.append(cell)
            cell = cell[1]
        if cell[0] in ("number", "function", "pair"):
            return cell
        if any(cell is one for one in self.marked):
            raise Stop("ring")
        self.marked.append(cell)
        came = self.work(cell)
        cell[:] = ["same", came] if isinstance(came, list) else list(came)
        self.marked.pop()
        return self.do(cell)

    def of_sort(self, sort, cell):
        cell = self.do(cell)
        if cell[0] != sort:
            raise Stop("fault", sort)
        return cell

    def work(self, cell):
        """A list, the cell that it is the same as, or a tuple, what it is."""
        kind = cell[0]
        if kind == "call":
            return self.call(cell[1], ())
        if kind == "give":
            _, f, things = self.of_sort("function", cell[1])
            given = (*things, cell[2])
            return ("function", f, given) if len(given) < self.wants[f] else self.call(f, given)
        if kind == "when":
            return cell[2] if self.of_sort("number", cell[1])[1] != 0 else cell[3]
        if kind in ("left", "right"):
            return self.of_sort("pair", cell[1])[1 if kind == "left" else 2]
        if kind == "bare":
            raise AssertionError("a bare cell is done")
        return ("number", self.come(kind, self.of_sort("number", cell[1])[1], self.of_sort("number", cell[2])[1]))

    def come(self, kind, a, b):
        n = {"plus": a + b, "less": a - b, "times": a * b, "below": int(a < b)}[kind]
        if not -LIMIT < n < LIMIT:
            raise Stop("fault", "great")
        return n

    def call(self, f, things):
        if f:
            if self.calls == self.bound:
                raise Stop("more")
            self.calls += 1
        pile = []
        self.go(self.rows[f], things, {}, pile)
        (cell,) = pile
        return cell

    def go(self, steps, things, own, pile):
        for step in steps:
            kind = step[0]
            if kind == "number":
                pile.append(list(step))
            elif kind == "fun":
                pile.append(self.whole.get(step[1]) or ["function", step[1], ()])
            elif kind == "thing":
                pile.append(things[step[1]])
            elif kind == "local":
                pile.append(own[step[1]])
            elif kind == "room":
                own.update({step[1] + k: ["bare"] for k in range(step[2])})
            elif kind == "tie":
                own[step[1]][:] = ["same", pile.pop()]
            elif kind == "do":
                self.of_sort(step[1], pile[-1])
            elif kind == "turn":
                self.go(step[1] if self.do(pile.pop())[1] != 0 else step[2], things, own, pile)
            elif kind == "side":
                pile.append(self.do(pile.pop())[1 if step[1] == "left" else 2])
            elif kind == "now":
                b, a = self.do(pile.pop()), self.do(pile.pop())
                pile.append(["number", self.come(step[1], a[1], b[1])])
            elif kind != "back":
                many = {"when": 3, "left": 1, "right": 1}.get(kind, 2)
                parts = pile[-many:]
                del pile[-many:]
                pile.append([kind, *parts])

    def told(self, deep, most):
        return self.told_of(self.asked, deep, most)

    def told_of(self, cell, deep, most):
        self.bound = self.calls + most
        try:
            cell = self.do(cell)
        except Stop as stop:
            self.marked = []
            return stop.args
        if cell[0] == "number":
            return tuple(cell)
        if cell[0] == "function":
            return ("function", cell[1], len(cell[2]))
        return ("pair", *[self.told_of(side, deep - 1, most) for side in cell[1:]]) if deep else ("pair",)
