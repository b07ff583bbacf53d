"""What there is to know of the places of a program, worked out once."""

from lazywebs.parts import all_in, many_in, row_names, within
from lazywebs.programs import all_functions


def inner_places(place, part):
    """The places of the parts straight within the part at the place, in order."""
    found = []
    behind = place + 1
    for inner in within(part):
        found.append(behind)
        behind += many_in(inner)
    return found


class Spots:
    """The places of a program, and where the bodies of its functions are."""

    def __init__(self, program):
        self._parts = []
        self._inner = []
        self._many_names = []
        self._named = {}
        self._bodies = {}
        self._wanted = {}
        for f, names, body in all_functions(program):
            self._bodies[f] = len(self._parts)
            self._wanted[f] = len(names)
            self._add_body(names, body)

    def _add_body(self, names, body):
        """Adds the places of a body behind all that are there."""
        first = len(self._parts)
        # Names of one function are unlike: each stands for one thing or row.
        known = {x: ("thing", k) for k, x in enumerate(names)}
        for place, part in enumerate(all_in(body), start=first):
            inner = inner_places(place, part)
            self._parts.append(part)
            self._inner.append(inner)
            self._many_names.append(len(names))
            for x, row in zip(row_names(part), inner):
                known[x] = ("row", row)
        for place in range(first, len(self._parts)):
            if self._parts[place][0] == "name":
                self._named[place] = known[self._parts[place][1]]

    def many(self):
        """How many places there are."""
        return len(self._parts)

    def part(self, place):
        """The part that is there."""
        return self._parts[place]

    def inner(self, place, k):
        """The place of the part that stands as k-th, from 0, within the one there."""
        return self._inner[place][k]

    def named(self, place):
        """What the name part there names: ("thing", k) or ("row", place)."""
        return self._named[place]

    def many_names(self, place):
        """How many names the function has in whose body the place is."""
        return self._many_names[place]

    def body(self, f):
        """The place of the function's body."""
        return self._bodies[f]

    def wanted(self, f):
        """How many things the function wants."""
        return self._wanted[f]
