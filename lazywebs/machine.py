"""The machine of cells, which goes by rows and writes over what it has done."""

from lazywebs.store import Store
from lazywebs.work import Work, first_cells, look_at_rows


class Machine:
    """Does the asked cell of a program by the rows of its functions."""

    def __init__(self, program, rows, room, moments):
        look_at_rows(program, rows)
        self._store = Store(first_cells(program), room, moments)
        self._work = Work(program, rows, self._store)

    def do(self, most):
        """What is asked comes to, told 0 deep, by so many calls more at most."""
        return self.told(0, most)

    def told(self, deep, most):
        """What is asked comes to, told so deep, by so many calls more at most each."""
        return self._work.told((), deep, most)

    def calls(self):
        """How many calls there were so far."""
        return self._work.calls()

    def made(self):
        """How many cells were made so far, those at first not counted."""
        return self._store.made()

    def record(self):
        """The calls, stops and sweeps so far, in their order."""
        return self._work.record()

    def cells(self):
        """All cells by their numbers."""
        return {number: self._store.web[number] for number in sorted(self._store.web)}

    def roots(self):
        """The roots, rising."""
        return self._work.roots()

    def sweep(self):
        """Takes all cells that aren't kept, and tells them, rising."""
        return self._work.sweep()

    def asked(self):
        """The asked cell."""
        return self._work.asked()
