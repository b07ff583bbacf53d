"""Nodes: places with what their functions' things are, of which alike ones are one."""

from lazywebs.spots import Spots


class Nodes:
    """A table of nodes of a program, numbered as they come."""

    def __init__(self, program):
        self.spots = Spots(program)
        self._told = []
        self._numbers = {}

    def node(self, place, things):
        """The number of this node, a new one where there is none."""
        node = (place, things)
        if node not in self._numbers:
            self._numbers[node] = len(self._told)
            self._told.append(node)
        return self._numbers[node]

    def seen(self, place, things):
        """The number of the node that is seen at the place with these things."""
        if self.spots.part(place)[0] != "name":
            return self.node(place, things)
        kind, where = self.spots.named(place)
        return things[where] if kind == "thing" else self.node(where, things)

    def told(self, number):
        """The node of this number."""
        return self._told[number]

    def many(self):
        """How many nodes there are."""
        return len(self._told)
