"""Programs made by turns of a seeded source, and told ones that several tests use."""

import random

from lazywebs.looks import looked
from samples import fun, give, let, name, number

# What a part is made to come to, mostly; else it is made of another sort.
SORTS = ("number", "number", "number", "pair", "function")
SMALL = (0, 0, 1, 1, 2, 3, -1, -5, 10 ** 30, 10 ** 59, 7)


class Maker:
    """Makes one program; names of one function are unlike by their count."""

    def __init__(self, seed):
        self.turns = random.Random(seed)
        self.functions = []
        for f in ("f", "g", "h", "k")[:self.turns.randrange(5)]:
            sorts = [self.turns.choice(SORTS) for _ in range(self.turns.randrange(4))]
            self.functions.append((f, sorts, self.turns.choice(SORTS)))
        self.names = 0

    def fresh(self):
        self.names += 1
        return "v" + "abcdefghijklmnopqrstuvwxyz"[self.names // 26] + "abcdefghijklmnopqrstuvwxyz"[self.names % 26]

    def leaf(self, sort, known):
        fitting = [x for x, of in known if of == sort] or [x for x, _ in known]
        if fitting and self.turns.random() < 0.7:
            return name(self.turns.choice(fitting))
        if sort == "function" and self.functions:
            return fun(self.turns.choice(self.functions)[0])
        if sort == "pair":
            return ("pair", number(self.turns.choice(SMALL)), number(self.turns.choice(SMALL)))
        return number(self.turns.choice(SMALL))

    def call(self, sort, known, deep):
        fitting = [one for one in self.functions if one[2] == sort] or self.functions
        if not fitting:
            return self.leaf(sort, known)
        f, sorts, _ = self.turns.choice(fitting)
        # Now and then fewer things than wanted, or one more.
        if self.turns.random() < 0.1:
            sorts = sorts[:-1] if self.turns.random() < 0.7 else sorts + ["number"]
        part = fun(f)
        for of in sorts:
            part = give(part, self.part(of, known, deep - 2))
        return part

    def let(self, sort, known, deep):
        rows = [(self.fresh(), self.turns.choice(SORTS)) for _ in range(self.turns.choice((1, 1, 2, 3)))]
        inside = known + rows
        made = [(x, self.part(of, inside, deep - 2)) for x, of in rows]
        return let(made, self.part(sort, inside, deep - 1))

    def part(self, sort, known, deep):
        if self.turns.random() < 0.05:
            sort = self.turns.choice(SORTS)
        if deep <= 0:
            return self.leaf(sort, known)
        way = self.turns.choice(("own", "own", "own", "call", "call", "when", "side", "let", "leaf", "use"))
        if way == "call":
            return self.call(sort, known, deep)
        if way == "when":
            return ("when", *[self.part(of, known, deep - 1) for of in ("number", sort, sort)])
        if way == "side":
            return (self.turns.choice(("left", "right")), self.part("pair", known, deep - 1))
        if way == "let":
            return self.let(sort, known, deep)
        if way == "use":
            return give(self.part("function", known, deep - 1), self.part("number", known, deep - 2))
        if way == "own" and sort == "pair":
            return ("pair", self.part(self.turns.choice(SORTS), known, deep - 1), self.part("number", known, deep - 2))
        if way == "own" and sort == "number":
            kind = self.turns.choice(("plus", "less", "times", "below"))
            return (kind, self.part("number", known, deep - 1), self.part("number", known, deep - 1))
        return self.leaf(sort, known)

    def small_part(self, sort, known, deep):
        """A part within the bounds of a body."""
        while True:
            self.names = 0
            part = self.part(sort, known, deep)
            if str(part).count("('") <= 60:
                return part

    def program(self):
        made = []
        for f, sorts, sort in self.functions:
            known = [("abcd"[k], of) for k, of in enumerate(sorts)]
            made.append((f, tuple(x for x, _ in known), self.small_part(sort, known, self.turns.choice((2, 3, 4)))))
        return looked((tuple(made), self.small_part(self.turns.choice(SORTS), [], self.turns.choice((2, 3, 4, 5)))))


def programs(first, many):
    """So many programs, of the seeds from first on."""
    return [Maker(seed).program() for seed in range(first, first + many)]


def asked_only(part):
    return looked(((), part))


def gives(head, *things):
    for thing in things:
        head = give(head, thing)
    return head


def plus(a, b):
    return ("plus", a, b)


def less(a, b):
    return ("less", a, b)


# A closed part without a step for each fault, with its word.
FAULTS = [
    (give(number(1), number(2)), "function"), (plus(number(1), ("pair", number(1), number(1))), "number"),
    (("left", number(1)), "pair"), (("times", number(10 ** 30), number(10 ** 30)), "great"),
]
# f n calls f (n - 1) within itself, n times, and comes to n; each call asks n once.
COUNT = ("count", ("n",), ("when", name("n"), plus(number(1), give(fun("count"), less(name("n"), number(1)))), number(0)))
# The numbers from n on, without an end.
FROM = ("from", ("n",), ("pair", name("n"), give(fun("from"), plus(name("n"), number(1)))))
# Never comes to an end, its things ever greater.
GROWS = ("grows", ("n",), give(fun("grows"), plus(name("n"), name("n"))))
# Never comes to an end, with sums around that wait.
WAITS = ("waits", ("n",), plus(give(fun("waits"), plus(name("n"), number(1))), number(1)))


def counting(n):
    return looked(((COUNT,), give(fun("count"), number(n))))


def numbers_from(n):
    return looked(((FROM,), give(fun("from"), number(n))))


def says(come):
    """What a node comes to, or a paper shows, as it is told 0 deep."""
    if come[0] != "worth":
        return come
    worth = come[1]
    if worth[0] == "function":
        return ("function", worth[1], len(worth[2]))
    return worth if worth[0] == "number" else ("pair",)
