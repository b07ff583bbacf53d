"""Calls that a machine has under way."""


class Call:
    """A call under way: the rows still to go through, and the cells it goes by."""

    def __init__(self, cell, rows, things):
        self.cell = cell
        self.things = things
        # By their numbers the locals that there are so far.
        self.own = {}
        self.pile = []
        # The next step is the last one.
        self.todo = list(rows[::-1])

    def held(self):
        """The cells on its pile, among its things and among its locals."""
        return [*self.pile, *self.things, *list(self.own.values())]

    def rename(self, ends):
        """Passes over the cells that are the same as others."""
        self.pile = [ends.get(one, one) for one in self.pile]
        self.things = tuple([ends.get(one, one) for one in self.things])
        self.own = {k: ends.get(one, one) for k, one in self.own.items()}
