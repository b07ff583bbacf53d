"""Points 8 to 10 worked out another way, by functions that call themselves, to compare."""

MANY = {"give": 2, "plus": 2, "less": 2, "times": 2, "below": 2, "when": 3, "pair": 2, "left": 1, "right": 1}
GREATEST = 10 ** 60 - 1


class Fault(Exception):
    pass


def put(part, things):
    kind = part[0]
    if kind == "name":
        return ("shut", things[part[1]]) if part[1] in things else part
    if kind == "let":
        return ("let", tuple((x, put(inner, things)) for x, inner in part[1]), put(part[2], things))
    if kind in MANY:
        return (kind,) + tuple(put(inner, things) for inner in part[1:])
    return part


def spread(part):
    """A part as its head and what that is given."""
    if part[0] == "give":
        head, things = spread(part[1])
        return head, things + [part[2]]
    return part, []


def names_of(program, f):
    for name, names, body in program[0]:
        if name == f:
            return names, body
    raise AssertionError(f)


def worth(program, part):
    if part[0] == "number" or part[0] == "pair":
        return True
    head, things = spread(part)
    return head[0] == "fun" and len(things) < len(names_of(program, head[1])[0])


def number_within(program, part, at):
    """None where the part there is a number, else what its step makes of the part."""
    inner = part[at]
    if not worth(program, inner):
        word, came = next_step(program, inner)
        return word, part[:at] + (came,) + part[at + 1:]
    if inner[0] != "number":
        raise Fault("number")
    return None


def of_numbers(program, part):
    for at in (1, 2):
        came = number_within(program, part, at)
        if came:
            return came
    a, b = part[1][1], part[2][1]
    n = {"plus": a + b, "less": a - b, "times": a * b, "below": int(a < b)}[part[0]]
    if not -GREATEST <= n <= GREATEST:
        raise Fault("great")
    return "number", ("number", n)


def next_step(program, part):
    kind = part[0]
    if kind == "shut":
        return "open", part[1]
    if kind == "let":
        return "let", put(part[2], {x: ("let", part[1], inner) for x, inner in part[1]})
    if kind in ("plus", "less", "times", "below"):
        return of_numbers(program, part)
    if kind == "when":
        came = number_within(program, part, 1)
        return came or ("turn", part[3] if part[1][1] == 0 else part[2])
    if kind in ("left", "right"):
        if not worth(program, part[1]):
            word, came = next_step(program, part[1])
            return word, (kind, came)
        if part[1][0] != "pair":
            raise Fault("pair")
        return "side", part[1][("left", "right").index(kind) + 1]
    head, things = spread(part)
    if head[0] == "fun" and len(things) == len(names_of(program, head[1])[0]):
        names, body = names_of(program, head[1])
        return "call", put(body, dict(zip(names, things)))
    if worth(program, part[1]):
        raise Fault("function")
    word, came = next_step(program, part[1])
    return word, (kind, came, part[2])


def due_step(program, part):
    try:
        return next_step(program, part)
    except Fault as fault:
        return ("fault", fault.args[0])


def due_told(program, part, deep, most):
    """What it comes to told so deep, and the words of its own steps."""
    words = []
    while not worth(program, part):
        word, came = due_step(program, part)
        if word == "fault":
            return ("fault", came), words
        if len(words) == most:
            return ("more",), words
        words.append(word)
        part = came
    if part[0] == "number":
        return part, words
    if part[0] == "pair":
        if deep == 0:
            return ("pair",), words
        return ("pair", *[due_told(program, inner, deep - 1, most)[0] for inner in part[1:]]), words
    head, things = spread(part)
    return ("function", head[1], len(things)), words
