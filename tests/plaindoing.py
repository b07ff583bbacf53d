"""Points 11 to 13 worked out another way, by functions that call themselves, to compare."""

LIMIT = 10 ** 60


class Stop(Exception):
    """A fault, a ring or more, which ends a doing."""


def parts_of(part):
    if part[0] == "let":
        return [inner for _, inner in part[1]] + [part[2]]
    return [] if part[0] in ("number", "name", "fun") else list(part[1:])


class PlainDoer:
    """Nodes are (function, path, things), interned: a path tells of each part which of its own is next."""

    def __init__(self, program):
        self.functions = {f: (names, body) for f, names, body in program[0]}
        self.functions[""] = ((), program[1])
        self.nodes = []
        self.kept = {}
        self.way = []
        self.calls = 0
        self.bound = 0

    def intern(self, node):
        if node not in self.nodes:
            self.nodes.append(node)
        return self.nodes.index(node)

    def part(self, f, path):
        part = self.functions[f][1]
        for k in path:
            part = parts_of(part)[k]
        return part

    def seen(self, f, path, things):
        part = self.part(f, path)
        if part[0] != "name":
            return self.intern((f, path, things))
        names = self.functions[f][0]
        if part[1] in names:
            return things[names.index(part[1])]
        for end in range(len(path)):
            outer = self.part(f, path[:end])
            if outer[0] == "let" and part[1] in [x for x, _ in outer[1]]:
                k = [x for x, _ in outer[1]].index(part[1])
                return self.intern((f, path[:end] + (k,), things))
        raise AssertionError(part)

    def need(self, number, is_call=False):
        if number in self.way:
            raise Stop("ring",)
        if number in self.kept:
            if self.kept[number][0] != "worth":
                raise Stop(*self.kept[number])
            return self.kept[number][1]
        if is_call:
            if self.calls == self.bound:
                raise Stop("more")
            self.calls += 1
        self.way.append(number)
        worth = self.work(*self.nodes[number])
        self.kept[self.way.pop()] = ("worth", worth)
        return worth

    def call(self, f, things):
        return self.need(self.intern((f, (), things)), True)

    def of_sort(self, sort, number):
        worth = self.need(number)
        if worth[0] != sort:
            raise Stop("fault", sort)
        return worth

    def work(self, f, path, things):
        part = self.part(f, path)
        kind = part[0]
        own = [path + (k,) for k in range(len(parts_of(part)))]
        see = lambda k: self.seen(f, own[k], things)
        if kind == "number":
            return part
        if kind == "name":
            return self.need(self.seen(f, path, things))
        if kind == "let":
            return self.need(see(len(own) - 1))
        if kind == "fun":
            return ("function", part[1], ()) if self.functions[part[1]][0] else self.call(part[1], ())
        if kind == "pair":
            return ("pair", see(0), see(1))
        if kind == "give":
            _, g, ahead = self.of_sort("function", see(0))
            given = ahead + (see(1),)
            return ("function", g, given) if len(given) < len(self.functions[g][0]) else self.call(g, given)
        if kind == "when":
            return self.need(see(2 if self.of_sort("number", see(0))[1] == 0 else 1))
        if kind in ("left", "right"):
            return self.need(self.of_sort("pair", see(0))[1 if kind == "left" else 2])
        a, b = self.of_sort("number", see(0))[1], self.of_sort("number", see(1))[1]
        n = {"plus": a + b, "less": a - b, "times": a * b, "below": 1 if a < b else 0}[kind]
        if not -LIMIT < n < LIMIT:
            raise Stop("fault", "great")
        return ("number", n)

    def do(self, number, most):
        self.bound = self.calls + most
        try:
            return ("worth", self.need(number))
        except Stop as stop:
            if stop.args != ("more",):
                self.kept.update({node: stop.args for node in self.way})
            return stop.args
        finally:
            self.way = []

    def told(self, deep, most):
        return self.told_of(self.intern(("", (), ())), deep, most)

    def told_of(self, number, deep, most):
        come = self.do(number, most)
        if come[0] != "worth":
            return come
        worth = come[1]
        if worth[0] == "function":
            return ("function", worth[1], len(worth[2]))
        if worth[0] == "number":
            return worth
        return ("pair", *[self.told_of(side, deep - 1, most) for side in worth[1:]]) if deep else ("pair",)
