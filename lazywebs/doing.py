"""Nodes done: their needs, one behind the other, until the worth is there."""

from lazywebs.nodes import Nodes
from lazywebs.rules import behind


class Doer:
    """Does nodes of a program, and keeps what they have come to."""

    def __init__(self, program):
        self._nodes = Nodes(program)
        self._asked = self._nodes.seen(self._nodes.spots.body(""), ())
        self._calls = 0
        # By each node that is done: ("worth", worth), ("fault", word) or
        # ("ring",), and its needs that were done ahead of that, in order.
        self._kept = {}
        self._needs = {}

    def asked(self):
        """The number of the node that is asked."""
        return self._asked

    def nodes(self):
        """The table of the nodes, to be looked at alone."""
        return self._nodes

    def calls(self):
        """How many calls there were so far."""
        return self._calls

    def done(self):
        """The done nodes in the order in which they came to their end.

        Tuples (node, its needs that were done, what it came to).
        """
        return [(node, tuple(self._needs[node]), come) for node, come in self._kept.items()]

    def _behind(self, node, needs):
        """What comes behind these needs of the node, all of them done."""
        comes = [self._kept[need] for need in needs]
        if comes and comes[-1][0] != "worth":
            return comes[-1]
        return behind(self._nodes, node, [come[1] for come in comes])

    def do(self, number, most):
        """What the node comes to, by so many calls more at most."""
        bound = self._calls + most
        # Those under way, each one needed by the one ahead, and by each of
        # them its needs that are done.
        way = [number]
        under = {number: []}
        while number not in self._kept:
            node = way[-1]
            told = self._behind(node, under[node])
            if told[0] not in ("need", "call"):
                self._end(way.pop(), under, told)
            elif told[1] in under:
                self._end(way.pop(), under, ("ring",))
            elif told[1] in self._kept:
                under[node].append(told[1])
            elif told[0] == "call" and self._calls >= bound:
                return ("more",)
            else:
                self._calls += 1 if told[0] == "call" else 0
                way.append(told[1])
                under[told[1]] = []
        return self._kept[number]

    def _end(self, node, under, come):
        """Keeps what the node has come to, which was under way."""
        self._kept[node] = come
        self._needs[node] = under.pop(node)

    def told(self, deep, most):
        """What is asked comes to, told so deep, by so many calls more at most each."""
        return self._told_of(self._asked, deep, most)

    def _told_of(self, number, deep, most):
        """What the node comes to, told so deep."""
        come = self.do(number, most)
        if come[0] != "worth":
            return come
        kind = come[1][0]
        if kind == "number":
            return come[1]
        if kind == "function":
            return ("function", come[1][1], len(come[1][2]))
        if deep == 0:
            return ("pair",)
        one = self._told_of(come[1][1], deep - 1, most)
        return ("pair", one, self._told_of(come[1][2], deep - 1, most))
