"""The work of a machine: its cells done, calls by the rows of their functions."""

from lazywebs.calls import Call
from lazywebs.cells import WORTHS, end_of, ends_of
from lazywebs.errors import NoRows
from lazywebs.figures import come_of
from lazywebs.programs import all_functions
from lazywebs.rowjudge import lets_by
from lazywebs.steps import STEPS


class Halt(Exception):
    """The machine stops; why is what it tells."""

    def __init__(self, why):
        super().__init__("the machine stops")
        self.why = why


def look_at_rows(program, rows):
    """Refuses rows of which those of a function aren't let by."""
    for (f, _, _), own in zip(all_functions(program), rows):
        if not lets_by(program, f, own):
            raise NoRows(f)


def first_cells(program):
    """The cells that are there at first, the asked one last."""
    return [("call", f) for f, names, _ in all_functions(program) if not names]


class Work:
    """Does the cells of a store, a Store or what has its methods."""

    def __init__(self, program, rows, store):
        self._store = store
        self._rows = {}
        self._wanted = {}
        for (f, names, _), own in zip(all_functions(program), rows):
            self._rows[f] = own
            self._wanted[f] = len(names)
        self._whole = {cell[1]: number for number, cell in enumerate(first_cells(program))}
        self._calls = 0
        self._most_calls = 0
        self._entries = []
        # The marked cells in the order in which they were marked, and by each
        # of them its call, None where it has none yet.
        self._way = []
        self._under = {}

    def asked(self):
        """The asked cell."""
        return self._whole[""]

    def calls(self):
        """How many calls there were so far."""
        return self._calls

    def record(self):
        """The calls, stops and sweeps so far."""
        return list(self._entries)

    def roots(self):
        """The cells that are kept whatever names them, rising."""
        found = [*list(self._whole.values()), *self._way]
        for call in self._calls_under_way():
            found.extend(call.held())
        return sorted(set(found))

    def _calls_under_way(self):
        """The calls under way, the first one first."""
        return [call for call in list(self._under.values()) if call is not None]

    def sweep(self):
        """Takes the cells that aren't kept, and tells them."""
        ends = ends_of(self._store.web)
        for call in self._calls_under_way():
            call.rename(ends)
        taken = self._store.sweep(self.roots(), ends)
        self._entries.append(("swept", tuple(taken)))
        return taken

    def told(self, path, deep, most):
        """What the cell at the path comes to, told so deep."""
        come = self._done(path, most)
        if come[0] == "function":
            return ("function", come[1], len(come[2]))
        if come[0] != "pair":
            return come
        if deep == 0:
            return ("pair",)
        one, other = [self.told((*path, at), deep - 1, most) for at in (1, 2)]
        return ("pair", one, other)

    def _cell_at(self, path):
        """The cell that one comes to from the asked one by these sides of pairs."""
        # It is looked for anew each time: a sweep may have passed over it.
        number = self.asked()
        for at in path:
            number = self._store.web[end_of(self._store.web, number)][at]
        return number

    def _done(self, path, most):
        """The worth to which the cell at the path is done, or why the work stops."""
        self._most_calls = self._calls + most
        try:
            if not self._store.holds_first():
                raise Halt(("room",))
            worth = self.worth(self._cell_at(path))
            while worth is None:
                while self._way:
                    self._go_on()
                worth = self.worth(self._cell_at(path))
        except Halt as halt:
            self._stop()
            return halt.why
        return worth

    def _stop(self):
        """All marks go, and nothing waits any more."""
        self._entries.append(("stop", tuple(self._way)))
        self._store.let_go(self.roots())
        self._way = []
        self._under = {}

    def worth(self, number):
        """The worth of the cell, or None where it isn't done: then it is marked."""
        end = end_of(self._store.web, number)
        if end is None or end in self._under:
            raise Halt(("ring",))
        cell = self._store.web[end]
        if cell[0] in WORTHS:
            return cell
        self._way.append(end)
        self._under[end] = None
        return None

    def _worth_of(self, number, kind):
        """The worth of the cell, of this kind, or None where it isn't done."""
        worth = self.worth(number)
        if worth is not None and worth[0] != kind:
            raise Halt(("fault", kind))
        return worth

    def _go_on(self):
        """Goes on with the cell that was marked last."""
        number = self._way[-1]
        call = self._under[number]
        cell = self._store.web[number]
        if call is not None:
            self._go_through(call)
        elif cell[0] == "call":
            self._call(number, cell[1], ())
        elif cell[0] == "give":
            self._give(number, cell)
        elif cell[0] == "when":
            self._choose(number, cell)
        elif cell[0] in ("left", "right"):
            self._take_side(number, cell)
        else:
            self._come_of_two(number, cell)

    def _end(self, number, cell):
        """Writes the cell over that was marked last; its mark goes."""
        self._store.write(number, cell)
        self._store.let_go([self._way.pop()])
        del self._under[number]

    def _call(self, number, f, things):
        """Begins the call of the function with these things."""
        if f != "":
            if self._calls == self._most_calls:
                raise Halt(("more",))
            self._calls += 1
            self._entries.append(("call", number, f))
        self._under[number] = Call(number, self._rows[f], things)

    def _go_through(self, call):
        """Goes through the rows of the call as far as its cells are done."""
        while call.todo:
            step = call.todo[-1]
            if step[0] == "do" and self._worth_of(call.pile[-1], step[1]) is None:
                return
            call.todo.pop()
            rule = STEPS[step[0]]
            rule(self, call, step)
        self._end(call.cell, ("same", call.pile[-1]))
        self._store.let_go(call.held())

    def _give(self, number, cell):
        """Goes on with a give."""
        worth = self._worth_of(cell[1], "function")
        if worth is None:
            return
        _, f, ahead = worth
        things = (*ahead, cell[2])
        if len(things) < self._wanted[f]:
            self._end(number, ("function", f, things))
        else:
            self._call(number, f, things)

    def _choose(self, number, cell):
        """Goes on with a when."""
        worth = self._worth_of(cell[1], "number")
        if worth is not None:
            self._end(number, ("same", cell[2] if worth[1] != 0 else cell[3]))

    def _take_side(self, number, cell):
        """Goes on with a left or a right."""
        worth = self._worth_of(cell[1], "pair")
        if worth is not None:
            self._end(number, ("same", worth[1] if cell[0] == "left" else worth[2]))

    def _come_of_two(self, number, cell):
        """Goes on with a plus, less, times or below."""
        numbers = []
        for part in cell[1:]:
            worth = self._worth_of(part, "number")
            if worth is None:
                return
            numbers.append(worth[1])
        self._end(number, ("number", self.come(cell[0], numbers[0], numbers[1])))

    def come(self, kind, a, b):
        """The number that comes of two."""
        n = come_of(kind, a, b)
        if n is None:
            raise Halt(("fault", "great"))
        return n

    def whole(self, f):
        """The cell that is there at first for the function, or None."""
        return self._whole.get(f)

    def make_way(self):
        """Sweeps ahead of a making where that is due."""
        if self._store.is_sweep_due():
            self.sweep()
        if self._store.is_full():
            raise Halt(("room",))

    def put(self, call, cell, many):
        """Puts a new cell in the place of so many on the call's pile."""
        number = self._store.add(cell)
        for _ in range(many):
            self.take(call)
        call.pile.append(number)

    def bare(self):
        """A new bare cell."""
        return self._store.add(("bare",))

    def take(self, call):
        """Takes the top from the call's pile."""
        number = call.pile.pop()
        self._store.let_go([number])
        return number

    def tie(self, number, other):
        """Writes the cell over: it is the same as the other."""
        self._store.write(number, ("same", other))
