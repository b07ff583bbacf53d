"""Points 19 to 24 worked out another way, to compare: cells are objects that hold one another."""

import sys

LIMIT = 10 ** 60
WORTHS = ("number", "function", "pair")
PARTS = {"when": 3, "left": 1, "right": 1}

# Calls within calls are Python calls here.
sys.setrecursionlimit(20000)


class Stop(Exception):
    """What is told where the machine stops."""


class Cell:
    """A cell: its number, its word, what it says beside, and the cells that it names."""

    def __init__(self, number, kind, said, named):
        self.number, self.kind, self.said, self.named = number, kind, said, list(named)

    def told(self):
        numbers = tuple(cell.number for cell in self.named)
        if self.kind == "function":
            return ("function", self.said, numbers)
        return (self.kind, self.said) if self.kind in ("number", "call") else (self.kind, *numbers)

    def become(self, kind, said, named):
        self.kind, self.said, self.named = kind, said, list(named)

    def round(self):
        """The cells passed over from this one on, and the one in the end, None where it comes round."""
        passed, cell = [], self
        while cell.kind == "same":
            if cell in passed:
                return passed[passed.index(cell):], None
            passed.append(cell)
            cell = cell.named[0]
        return passed, cell

    def end(self):
        """The cell that is named by a sweep in this one's place."""
        passed, cell = self.round()
        return cell if cell is not None else min(passed, key=lambda one: one.number)


class PlainCells:
    """A machine."""

    def __init__(self, program, rows, room, moments):
        self.names = [f for f, _, _ in program[0]] + [""]
        self.rows = dict(zip(self.names, rows))
        self.wants = {f: len(things) for f, things, _ in program[0]}
        self.wants[""] = 0
        self.room, self.moments = room, tuple(moments)
        self.whole = {}
        for f in self.names:
            if self.wants[f] == 0:
                self.whole[f] = Cell(len(self.whole), "call", f, ())
        self.all = list(self.whole.values())
        self.calls, self.made, self.bound = 0, 0, 0
        self.record, self.marked, self.frames = [], [], []

    def cells(self):
        return {cell.number: cell.told() for cell in self.all}

    # Sweeps

    def pass_over(self, cells):
        return [cell.end() for cell in cells]

    def sweep(self):
        became = [self.pass_over(cell.named) for cell in self.all]
        for frame in self.frames:
            for key in frame:
                frame[key] = self.pass_over(frame[key])
        for cell, named in zip(self.all, became):
            cell.named = named
        kept = list(self.whole.values()) + self.marked
        for frame in self.frames:
            for cells in frame.values():
                kept += cells
        for cell in kept:
            kept += [one for one in cell.named if one not in kept]
        taken = sorted(cell.number for cell in self.all if cell not in kept)
        self.all = [cell for cell in self.all if cell in kept]
        self.record.append(("swept", tuple(taken)))
        return taken

    def new(self, kind, said, held):
        """A new cell that names what is held, a list as it stands behind a sweep."""
        if self.made + 1 in self.moments or len(self.all) >= self.room:
            self.sweep()
        if len(self.all) >= self.room:
            raise Stop("room")
        used = [cell.number for cell in self.all]
        number = min(n for n in range(len(used) + 1) if n not in used)
        cell = Cell(number, kind, said, held())
        self.all.append(cell)
        self.made += 1
        return cell

    # Doings

    def do(self, cell):
        _, cell = cell.round()
        if cell is None or cell in self.marked:
            raise Stop("ring")
        if cell.kind in WORTHS:
            return cell
        self.marked.append(cell)
        came = self.work(cell)
        if isinstance(came, Cell):
            came = ("same", None, (came,))
        cell.become(*came)
        self.marked.remove(cell)
        return self.do(cell)

    def of_kind(self, kind, cell):
        cell = self.do(cell)
        if cell.kind != kind:
            raise Stop("fault", kind)
        return cell

    def work(self, cell):
        """The cell that it becomes the same as, or what it becomes."""
        if cell.kind == "call":
            return self.call(cell, cell.said, [])
        if cell.kind == "give":
            of = self.of_kind("function", cell.named[0])
            things = of.named + [cell.named[1]]
            return ("function", of.said, things) if len(things) < self.wants[of.said] else self.call(cell, of.said, things)
        if cell.kind == "when":
            return cell.named[1 if self.of_kind("number", cell.named[0]).said != 0 else 2]
        if cell.kind in ("left", "right"):
            pair = self.of_kind("pair", cell.named[0])
            return pair.named[0 if cell.kind == "left" else 1]
        a = self.of_kind("number", cell.named[0])
        return ("number", self.come(cell.kind, a, self.of_kind("number", cell.named[1])), ())

    def come(self, kind, a, b):
        n = {"plus": a.said + b.said, "less": a.said - b.said, "times": a.said * b.said, "below": int(a.said < b.said)}[kind]
        if not -LIMIT < n < LIMIT:
            raise Stop("fault", "great")
        return n

    def call(self, cell, f, things):
        if f:
            if self.calls == self.bound:
                raise Stop("more")
            self.calls += 1
            self.record.append(("call", cell.number, f))
        self.frames.append({"pile": [], "things": things, "own": []})
        numbers = {}
        self.go(self.rows[f], numbers)
        return self.frames.pop()["pile"][-1]

    def go(self, steps, numbers):
        frame = self.frames[-1]
        for step in steps:
            kind, pile = step[0], frame["pile"]
            if kind == "number":
                cell = self.new("number", step[1], list)
                frame["pile"].append(cell)
            elif kind == "fun":
                f = step[1]
                cell = self.whole[f] if self.wants[f] == 0 else self.new("function", f, list)
                frame["pile"].append(cell)
            elif kind == "thing":
                pile.append(frame["things"][step[1]])
            elif kind == "local":
                pile.append(frame["own"][numbers[step[1]]])
            elif kind == "room":
                for k in range(step[1], step[1] + step[2]):
                    cell = self.new("bare", None, list)
                    numbers[k] = len(frame["own"])
                    frame["own"].append(cell)
            elif kind == "tie":
                frame["own"][numbers[step[1]]].become("same", None, [pile.pop()])
            elif kind == "do":
                self.of_kind(step[1], pile[-1])
            elif kind == "turn":
                self.go(step[1] if self.do(pile.pop()).said != 0 else step[2], numbers)
            elif kind == "side":
                pile.append(self.do(pile.pop()).named[0 if step[1] == "left" else 1])
            elif kind == "now":
                n = self.come(step[1], self.do(pile[-2]), self.do(pile[-1]))
                cell = self.new("number", n, list)
                frame["pile"][-2:] = [cell]
            elif kind != "back":
                many = PARTS.get(kind, 2)
                cell = self.new(kind, None, lambda of=many: frame["pile"][-of:])
                frame["pile"][-many:] = [cell]

    def told(self, deep, most):
        return self.told_of(self.whole[""], deep, most)

    def told_of(self, cell, deep, most):
        self.bound = self.calls + most
        try:
            if len(self.whole) > self.room:
                raise Stop("room")
            cell = self.do(cell)
        except Stop as stop:
            self.record.append(("stop", tuple(one.number for one in self.marked)))
            self.marked, self.frames = [], []
            return stop.args
        if cell.kind == "number":
            return ("number", cell.said)
        if cell.kind == "function":
            return ("function", cell.said, len(cell.named))
        if deep == 0:
            return ("pair",)
        one = self.told_of(cell.named[0], deep - 1, most)
        return ("pair", one, self.told_of(cell.named[1], deep - 1, most))
