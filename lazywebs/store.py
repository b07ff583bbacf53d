"""The cells of a machine, in the room that there is for them."""

from lazywebs.cells import named_by, renamed


class Store:
    """Keeps cells by their numbers, and takes those that aren't kept any more."""

    def __init__(self, first, room, moments):
        self.web = dict(enumerate(first))
        self._first = len(first)
        self._room = room
        self._moments = {moment: True for moment in moments}
        self._made = 0
        # The numbers below the greatest one that no cell has, the least one last.
        self._free = []

    def made(self):
        """How many cells were made so far."""
        return self._made

    def holds_first(self):
        """Whether there is room for the cells that are there at first."""
        return self._first <= self._room

    def is_full(self):
        """Whether there is no room for one more cell."""
        return len(self.web) >= self._room

    def is_sweep_due(self):
        """Whether it is to be swept ahead of the next making."""
        return self.is_full() or self._made + 1 in self._moments

    def add(self, cell):
        """The number of a new cell, the least one that no cell has."""
        number = self._free.pop() if self._free else len(self.web)
        self.web[number] = cell
        self._made += 1
        return number

    def write(self, number, cell):
        """Writes the cell over."""
        self.web[number] = cell

    def let_go(self, numbers):
        """Is told of cells that are no more held; here nothing hangs on it."""

    def sweep(self, roots, ends):
        """Keeps what the roots name, those that are the same as others passed over.

        The cells taken are told, rising.
        """
        kept = {}
        waiting = list(roots)
        while waiting:
            one = waiting.pop()
            if one not in kept:
                kept[one] = renamed(self.web[one], ends)
                waiting.extend(named_by(kept[one]))
        taken = sorted([one for one in self.web if one not in kept])
        beyond = len(self.web) + len(self._free)
        self._free = [one for one in reversed(range(beyond)) if one not in kept]
        self.web = kept
        return taken
