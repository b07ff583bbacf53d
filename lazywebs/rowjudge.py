"""The judge of rows: whether something, whatever it is, is rows of a function."""

from lazywebs.kinds import is_tuple_of, is_whole
from lazywebs.programs import function_of
from lazywebs.rows import building, named_steps, ties


def is_like(thing, own):
    """Whether the thing is this very text or whole number."""
    if isinstance(own, str):
        return isinstance(thing, str) and thing == own
    return is_whole(thing) and thing == own


def is_step(thing, step):
    """Whether the thing is this very step, one of texts and whole numbers."""
    if not is_tuple_of(thing, len(step)):
        return False
    return all([is_like(one, own) for one, own in zip(thing, step)])


def passed(rows, at, steps):
    """Where the rows go on behind these steps, or None where they don't stand there."""
    if at is None or len(rows) - at < len(steps):
        return None
    for thing, step in zip(rows[at:at + len(steps)], steps):
        if not is_step(thing, step):
            return None
    return at + len(steps)


def passed_turn(rows, at, part, named, want):
    """Where the rows go on behind the turn of a when, or None."""
    if at is None or at == len(rows) or not is_tuple_of(rows[at], 3):
        return None
    word, yes, no = rows[at]
    if not is_like(word, "turn"):
        return None
    for chosen, inner in ((yes, part[2]), (no, part[3])):
        if not isinstance(chosen, tuple) or passed_part(chosen, 0, inner, named, want) != len(chosen):
            return None
    return at + 1


def passed_part(rows, at, part, named, want):
    """Where the rows go on behind a doing of the part by the want.

    An ending of it, where the want is None; None where there is none.
    """
    kind = part[0]
    done = [] if want is None else [("do", want)]
    behind = passed(rows, at, building(part, named) + done)
    # Where the building stands no other doing or ending can stand: they differ
    # from it in the first step that isn't the same, so no way back is wanted.
    if behind is not None or at is None:
        return behind
    if kind in ("plus", "less", "times", "below"):
        behind = passed_part(rows, at, part[1], named, "number")
        behind = passed_part(rows, behind, part[2], named, "number")
        return passed(rows, behind, [("now", kind), *(done if want == "pair" else [])])
    if kind == "when":
        behind = passed_part(rows, at, part[1], named, "number")
        return passed_turn(rows, behind, part, named, want)
    if kind in ("left", "right"):
        behind = passed_part(rows, at, part[1], named, "pair")
        return passed(rows, behind, [("side", kind), *done])
    if kind == "let":
        return passed_part(rows, passed(rows, at, ties(part, named)), part[2], named, want)
    return None


def lets_by(program, f, thing):
    """Whether the thing is rows of the function that are let by."""
    if not isinstance(thing, tuple):
        return False
    function = function_of(program, f)
    behind = passed_part(thing, 0, function[2], named_steps(function), None)
    return passed(thing, behind, [("back",)]) == len(thing)
