"""The rows of functions: the steps by which a machine goes through their bodies."""

from lazywebs.parts import let_names, within
from lazywebs.programs import all_functions, function_of


def named_steps(function):
    """By each name of the function the step that puts what it names on the pile."""
    steps = {x: ("thing", k) for k, x in enumerate(function[1])}
    for k, x in enumerate(let_names(function[2])):
        steps[x] = ("local", k)
    return steps


def ties(part, named):
    """The steps of a let that make its rows."""
    rows = part[1]
    steps = [("room", named[rows[0][0]][1], len(rows))]
    for x, inner in rows:
        steps.extend(building(inner, named))
        steps.append(("tie", named[x][1]))
    return steps


def building(part, named):
    """The steps of which the part is built."""
    kind = part[0]
    if kind in ("number", "fun"):
        return [part]
    if kind == "name":
        return [named[part[1]]]
    if kind == "let":
        return ties(part, named) + building(part[2], named)
    steps = []
    for inner in within(part):
        steps.extend(building(inner, named))
    return [*steps, (kind,)]


def leanest(part, named, want):
    """The lean doing of the part by the want, its lean ending where that is None."""
    kind = part[0]
    done = [] if want is None else [("do", want)]
    if kind in ("plus", "less", "times", "below"):
        steps = leanest(part[1], named, "number") + leanest(part[2], named, "number")
        return [*steps, ("now", kind)] + (done if want == "pair" else [])
    if kind == "when":
        yes, no = [tuple(leanest(inner, named, want)) for inner in part[2:]]
        return [*leanest(part[1], named, "number"), ("turn", yes, no)]
    if kind in ("left", "right"):
        return [*leanest(part[1], named, "pair"), ("side", kind), *done]
    if kind == "let":
        return ties(part, named) + leanest(part[2], named, want)
    return building(part, named) + done


def built_rows(program, f):
    """The rows of the function that build its body."""
    function = function_of(program, f)
    return (*building(function[2], named_steps(function)), ("back",))


def lean_rows(program, f):
    """The rows of the function that build nothing which may be done at once."""
    function = function_of(program, f)
    return (*leanest(function[2], named_steps(function), None), ("back",))


def all_rows(program, lean):
    """The built or the lean rows of all functions in their order, asked's last."""
    names = [function[0] for function in all_functions(program)]
    if lean:
        return tuple([lean_rows(program, f) for f in names])
    return tuple([built_rows(program, f) for f in names])
