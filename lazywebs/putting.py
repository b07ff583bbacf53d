"""Putting in closed parts for names, and the steps by which one goes on."""

from lazywebs.figures import come_of
from lazywebs.parts import all_in, within
from lazywebs.programs import function_of, most_wanted, wants


def made_of(part, inner, things):
    """The part with these parts within it, or what is put in for its name."""
    kind = part[0]
    if kind == "name" and part[1] in things:
        return ("shut", things[part[1]])
    if kind == "let":
        rows = tuple([(row[0], one) for row, one in zip(part[1], inner)])
        return ("let", rows, inner[-1])
    return (kind, *inner) if inner else part


def put_in(part, things):
    """The part with the closed parts put in for their names."""
    # From the last part to the first: what the next one ahead has within it
    # is then the top of what has been made.
    made = []
    for one in reversed(all_in(part)):
        inner = [made.pop() for _ in within(one)]
        made.append(made_of(one, inner, things))
    return made.pop()


def given(part):
    """What stands at the head of gives, and the things that it is given."""
    things = []
    while part[0] == "give":
        things.append(part[2])
        part = part[1]
    return (part, things[::-1])


def is_worth(program, part):
    """Whether the closed part is a worth."""
    if part[0] not in ("give", "fun"):
        return part[0] in ("number", "pair")
    # No worth has as many gives as the most wanted things: a long row of gives
    # isn't gone along to its head, or looking at each of them would take long.
    many = 0
    most = most_wanted(program)
    while part[0] == "give" and many < most:
        part = part[1]
        many += 1
    return part[0] == "fun" and many < wants(program, part[1])


def due_of_call(program, part):
    """Of a fun part that is given just the things that its function wants."""
    head, things = given(part)
    _, names, body = function_of(program, head[1])
    return ("call", put_in(body, dict(zip(names, things))))


def due_of_give(program, part):
    """Of gives that are no worth."""
    if not is_worth(program, part[1]):
        return ("within", 1)
    if part[1][0] in ("number", "pair"):
        return ("fault", "function")
    return due_of_call(program, part)


def due_of_let(program, part):
    """Of a let, each of whose rows is put in as a let of its own."""
    rows = part[1]
    return ("let", put_in(part[2], {x: ("let", rows, inner) for x, inner in rows}))


def due_of_shut(program, part):
    """Of a shut part."""
    return ("open", part[1])


def due_of_two(program, part):
    """Of plus, less, times and below."""
    for at in (1, 2):
        if not is_worth(program, part[at]):
            return ("within", at)
        if part[at][0] != "number":
            return ("fault", "number")
    n = come_of(part[0], part[1][1], part[2][1])
    return ("fault", "great") if n is None else ("number", ("number", n))


def due_of_when(program, part):
    """Of a when."""
    if not is_worth(program, part[1]):
        return ("within", 1)
    if part[1][0] != "number":
        return ("fault", "number")
    return ("turn", part[2] if part[1][1] != 0 else part[3])


def due_of_side(program, part):
    """Of left and right."""
    if not is_worth(program, part[1]):
        return ("within", 1)
    if part[1][0] != "pair":
        return ("fault", "pair")
    return ("side", part[1][1] if part[0] == "left" else part[1][2])


DUES = {
    "fun": due_of_call, "give": due_of_give, "let": due_of_let, "shut": due_of_shut,
    "plus": due_of_two, "less": due_of_two, "times": due_of_two, "below": due_of_two,
    "when": due_of_when, "left": due_of_side, "right": due_of_side,
}


def due(program, part):
    """What comes of the closed part next.

    ("worth", part), ("fault", word), its own step as (word, part), or
    ("within", at) where that is up to the part at that place of its tuple.
    """
    if is_worth(program, part):
        return ("worth", part)
    rule = DUES[part[0]]
    return rule(program, part)


def put_back(part, outer, at):
    """The outer part with the part at that place of its tuple."""
    return (*outer[:at], part, *outer[at + 1:])


def go_to_step(program, part, around):
    """Goes to where the next step of a closed part is, or a fault, as due tells it.

    around is a list of tuples (outer part, at), the outermost first: what is
    around the part. It grows and shrinks with the way; where a worth is told
    nothing is around it any more.
    """
    while True:
        told = due(program, part)
        if told[0] == "within":
            around.append((part, told[1]))
            part = part[told[1]]
        elif told[0] == "worth" and around:
            outer, at = around.pop()
            part = put_back(part, outer, at)
        else:
            return told


def step(program, part):
    """The next step of a closed part that is no worth, or its fault."""
    around = []
    word, told = go_to_step(program, part, around)
    if word == "fault":
        return ("fault", told)
    while around:
        outer, at = around.pop()
        told = put_back(told, outer, at)
    return (word, told)
