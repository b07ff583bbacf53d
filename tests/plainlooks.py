"""What is due of a thing by points 4 to 6, worked out another way, to compare."""

import re

MANY = {"give": 2, "plus": 2, "less": 2, "times": 2, "below": 2, "when": 3, "pair": 2, "left": 1, "right": 1}


class Unfit(Exception):
    pass


def demand(holds):
    if not holds:
        raise Unfit()


def check_name(thing):
    demand(type(thing) is str and re.fullmatch("[a-z]{1,8}", thing))


def check_tuple(thing, least, most):
    demand(type(thing) is tuple and least <= len(thing) <= most)


def check_part(thing, deep, count):
    """Counts in count[0]; deep is how deep the part stands, from 1."""
    count[0] += 1
    demand(deep <= 12 and count[0] <= 60)
    check_tuple(thing, 2, 4)
    kind, rest = thing[0], thing[1:]
    demand(type(kind) is str)
    if kind == "number":
        demand(len(rest) == 1 and type(rest[0]) is int and -(10 ** 60) < rest[0] < 10 ** 60)
    elif kind in ("name", "fun"):
        demand(len(rest) == 1)
        check_name(rest[0])
    elif kind == "let":
        demand(len(rest) == 2)
        check_tuple(rest[0], 1, 4)
        for row in rest[0]:
            check_tuple(row, 2, 2)
            check_name(row[0])
            check_part(row[1], deep + 1, count)
        check_part(rest[1], deep + 1, count)
    else:
        demand(MANY.get(kind) == len(rest))
        for part in rest:
            check_part(part, deep + 1, count)


def check_program(thing):
    check_tuple(thing, 2, 2)
    check_tuple(thing[0], 0, 8)
    for function in thing[0]:
        check_tuple(function, 3, 3)
        check_name(function[0])
        check_tuple(function[1], 0, 4)
        for own in function[1]:
            check_name(own)
        check_part(function[2], 1, [0])
    check_part(thing[1], 1, [0])


def walk(part, known, seen):
    """Puts (part, names known there) of all places to seen, in their order."""
    seen.append((part, known))
    if part[0] == "let":
        known = known | {row[0] for row in part[1]}
        for row in part[1]:
            walk(row[1], known, seen)
        walk(part[2], known, seen)
    elif part[0] in MANY:
        for inner in part[1:]:
            walk(inner, known, seen)


def faults(program):
    """All faults of names: (rank, function, rank there, where, word, name)."""
    functions, asked = program
    for at, function in enumerate(functions):
        if function[0] in [ahead[0] for ahead in functions[:at]]:
            yield (0, at, 0, 0, "Twice", function[0])
    for at, (_, names, body) in enumerate([*functions, ("", (), asked)]):
        seen = []
        walk(body, set(names), seen)
        own = list(names) + [row[0] for part, _ in seen if part[0] == "let" for row in part[1]]
        for where, x in enumerate(own):
            if own.index(x) < where:
                yield (1, at, 0, where, "Hidden", x)
        for where, (part, known) in enumerate(seen):
            if part[0] == "name" and part[1] not in known:
                yield (1, at, 1, where, "Stranger", part[1])
            if part[0] == "fun" and part[1] not in [function[0] for function in functions]:
                yield (1, at, 1, where, "Stranger", part[1])


def due(thing):
    """("told",), ("NoProgram",) or (word, name)."""
    try:
        check_program(thing)
    except Unfit:
        return ("NoProgram",)
    found = sorted(faults(thing))
    return found[0][4:] if found else ("told",)
