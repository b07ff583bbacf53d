"""Parts and programs that several tests use."""

ONE = ("number", 1)


def number(n):
    return ("number", n)


def name(x):
    return ("name", x)


def fun(f):
    return ("fun", f)


def give(a, b):
    return ("give", a, b)


def let(rows, a):
    return ("let", tuple(rows), a)


def of_depth(deep):
    """A part that is so deep, of as many parts."""
    part = ONE
    for _ in range(deep - 1):
        part = ("left", part)
    return part


def of_many(many):
    """A part of so many parts, no deeper than a dozen where there are 60."""
    if many == 1:
        return ONE
    if many == 2:
        return ("left", ONE)
    ahead = (many - 1) // 2
    return ("pair", of_many(ahead), of_many(many - 1 - ahead))


# One part of each kind, with what stands straight within it, how many and how deep.
A, B, C = number(1), ("left", number(2)), ("pair", number(3), ("right", number(4)))
EACH_KIND = [
    (number(0), [], 1, 1),
    (name("x"), [], 1, 1),
    (fun("f"), [], 1, 1),
    (("give", C, A), [C, A], 6, 4),
    (("plus", A, B), [A, B], 4, 3),
    (("less", B, A), [B, A], 4, 3),
    (("times", A, C), [A, C], 6, 4),
    (("below", C, B), [C, B], 7, 4),
    (("when", C, A, B), [C, A, B], 8, 4),
    (("when", A, C, B), [A, C, B], 8, 4),
    (("when", A, B, C), [A, B, C], 8, 4),
    (("pair", B, C), [B, C], 7, 4),
    (("left", C), [C], 5, 4),
    (("right", B), [B], 3, 3),
    (let([("x", A)], A), [A, A], 3, 2),
    (let([("x", A)], C), [A, C], 6, 4),
    (let([("x", C), ("y", A)], B), [C, A, B], 8, 4),
    (let([("x", A), ("y", C), ("z", B)], A), [A, C, B, A], 9, 4),
    (let([("z", B), ("y", A), ("x", A), ("w", C)], A), [B, A, A, C, A], 10, 4),
]

# Four functions that want none to three things, and asked.
SAMPLE_BODIES = [
    ("plus", ("times", number(2), number(3)), number(4)),
    let([("m", name("a")), ("n", ("left", name("m")))], ("pair", name("n"), fun("two"))),
    ("when", name("b"), ("less", name("b"), name("a")), fun("none")),
    ("below", name("a"), let([("d", name("c"))], let([("e", name("d"))], ("right", name("e"))))),
    give(fun("one"), ("times", number(5), number(5))),
]
SAMPLE = (
    (
        ("none", (), SAMPLE_BODIES[0]),
        ("one", ("a",), SAMPLE_BODIES[1]),
        ("two", ("a", "b"), SAMPLE_BODIES[2]),
        ("three", ("a", "b", "c"), SAMPLE_BODIES[3]),
    ),
    SAMPLE_BODIES[4],
)
