"""Points 14 and 15 worked out another way, to compare: the needs of a node by a generator."""

LIMIT = 10 ** 60


class Unfit(Exception):
    pass


def demand(holds):
    if not holds:
        raise Unfit()


def number(thing, below):
    demand(type(thing) is int and 0 <= thing < below)


def numbers(thing, below):
    demand(type(thing) is tuple)
    for one in thing:
        number(one, below)


class PlainPaper:
    def __init__(self, program, thing):
        self.places = []
        self.bodies = {}
        self.wants = {}
        for f, names, body in [*program[0], ("", (), program[1])]:
            self.bodies[f] = len(self.places)
            self.wants[f] = len(names)
            self.add(body, names, {x: ("thing", k) for k, x in enumerate(names)})
        self.program = program
        demand(type(thing) is tuple and len(thing) == 3)
        self.nodes, self.lines, self.way = thing
        for part in thing:
            demand(type(part) is tuple)
        self.check_nodes()
        for at, line in enumerate(self.lines):
            self.check_line(at, line)
        for one in self.way:
            demand(type(one) is tuple and len(one) == 2)
            number(one[0], len(self.nodes))
            numbers(one[1], len(self.lines))

    def add(self, part, names, known):
        """Adds the part's places; each is a dict of what is known of it."""
        here = {"part": part, "names": len(names), "own": []}
        self.places.append(here)
        if part[0] == "let":
            known = dict(known)
            rows = [x for x, _ in part[1]]
            inner = [row for _, row in part[1]] + [part[2]]
            # The rows' places aren't known yet where they name one another.
            for x in rows:
                known[x] = ("row", here, rows.index(x))
        else:
            inner = [one for one in part[1:] if type(one) is tuple]
        here["known"] = known
        for one in inner:
            here["own"].append(len(self.places))
            self.add(one, names, known)

    def check_nodes(self):
        for at, node in enumerate(self.nodes):
            demand(type(node) is tuple and len(node) == 2)
            number(node[0], len(self.places))
            numbers(node[1], at)
            demand(len(node[1]) == self.places[node[0]]["names"])
        demand(len(set(self.nodes)) == len(self.nodes))
        self.numbers = {node: at for at, node in enumerate(self.nodes)}

    def check_line(self, at, line):
        demand(type(line) is tuple and len(line) == 3)
        number(line[0], len(self.nodes))
        numbers(line[1], at)
        come = line[2]
        demand(type(come) is tuple and len(come) in (2, 3) and type(come[0]) is str)
        if come[0] == "number":
            demand(len(come) == 2 and type(come[1]) is int)
        elif come[0] == "fault":
            demand(len(come) == 2 and type(come[1]) is str)
        elif come[0] == "pair":
            demand(len(come) == 3)
            numbers(come[1:], len(self.nodes))
        else:
            demand(come[0] == "function" and len(come) == 3 and type(come[1]) is str)
            numbers(come[2], len(self.nodes))

    def seen(self, place, things):
        here = self.places[place]
        if here["part"][0] == "name":
            kind, *rest = here["known"][here["part"][1]]
            if kind == "thing":
                return things[rest[0]]
            place = rest[0]["own"][rest[1]]
        return self.numbers.get((place, things))

    def work(self, node):
        """Asks for the needs of the node, is sent their worths, returns what comes."""
        place, things = self.nodes[node]
        here = self.places[place]
        part, own = here["part"], here["own"]
        kind = part[0]
        if kind == "number":
            return part
        if kind == "name":
            return (yield self.seen(place, things))
        if kind == "let":
            return (yield self.seen(own[-1], things))
        if kind == "pair":
            return ("pair", self.seen(own[0], things), self.seen(own[1], things))
        if kind == "fun":
            f, given = part[1], ()
            if self.wants[f]:
                return ("function", f, ())
            return (yield self.numbers.get((self.bodies[f], ())))
        first = yield self.seen(own[0], things)
        if kind == "give":
            if first[0] != "function":
                return ("fault", "function")
            given = first[2] + (self.seen(own[1], things),)
            if len(given) < self.wants[first[1]]:
                return ("function", first[1], given)
            return (yield self.numbers.get((self.bodies[first[1]], given)))
        if kind in ("left", "right"):
            if first[0] != "pair":
                return ("fault", "pair")
            return (yield first[1 if kind == "left" else 2])
        if first[0] != "number":
            return ("fault", "number")
        if kind == "when":
            return (yield self.seen(own[2 if first[1] == 0 else 1], things))
        second = yield self.seen(own[1], things)
        if second[0] != "number":
            return ("fault", "number")
        a, b = first[1], second[1]
        n = {"plus": a + b, "less": a - b, "times": a * b, "below": 1 if a < b else 0}[kind]
        return ("number", n) if -LIMIT < n < LIMIT else ("fault", "great")

    def behind(self, node, uses):
        """("need", number) or ("come", worth or fault) behind the lines of uses."""
        work = self.work(node)
        is_last = not uses
        try:
            need = next(work)
            for at, use in enumerate(uses):
                about, _, come = self.lines[use]
                demand(about == need)
                if come[0] == "fault":
                    demand(at + 1 == len(uses))
                    return ("come", come)
                is_last = at + 1 == len(uses)
                need = work.send(come)
        except StopIteration as stop:
            demand(is_last)
            return ("come", stop.value)
        return ("need", need)

    def shown(self):
        for about, uses, come in self.lines:
            demand(self.behind(about, uses) == ("come", come))
        asked = self.seen(self.bodies[""], ())
        if not self.way:
            demand(self.lines and asked is not None and self.lines[-1][0] == asked)
            come = self.lines[-1][2]
            return come if come[0] == "fault" else ("worth", come)
        needs = [self.behind(node, uses) for node, uses in self.way]
        around = [node for node, _ in self.way]
        demand(around[0] == asked)
        demand(needs[:-1] == [("need", node) for node in around[1:]])
        demand(needs[-1][0] == "need" and needs[-1][1] in around)
        return ("ring",)


def due_shown(program, thing):
    try:
        return PlainPaper(program, thing).shown()
    except Unfit:
        return None
