"""Looks whether something, whatever it is, is a program."""

from lazywebs.errors import Hidden, NoProgram, Stranger, Twice
from lazywebs.figures import fits
from lazywebs.kinds import is_tuple_of, is_whole
from lazywebs.parts import PARTS_OF, let_names, row_names, within
from lazywebs.programs import all_functions

LETTERS = "abcdefghijklmnopqrstuvwxyz"
MOST_LETTERS = 8
MOST_ROWS = 4
MOST_THINGS = 4
MOST_FUNCTIONS = 8
MOST_PARTS = 60
MOST_DEEP = 12


def is_name(thing):
    """Whether it is a name."""
    if not isinstance(thing, str) or not 1 <= len(thing) <= MOST_LETTERS:
        return False
    return all([sign in LETTERS for sign in thing])


def is_number(thing):
    """Whether it is a whole number of at most sixty figures."""
    return is_whole(thing) and fits(thing)


def are_let_rows(thing):
    """Whether they are rows of a let, but for what the rows' parts are."""
    if not isinstance(thing, tuple) or not 1 <= len(thing) <= MOST_ROWS:
        return False
    return all([is_tuple_of(row, 2) and is_name(row[0]) for row in thing])


def is_part_by_itself(thing):
    """Whether it is a part, but for what stands in the places of parts within."""
    if not isinstance(thing, tuple) or not thing or not isinstance(thing[0], str):
        return False
    kind = thing[0]
    if kind == "number":
        return len(thing) == 2 and is_number(thing[1])
    if kind in ("name", "fun"):
        return len(thing) == 2 and is_name(thing[1])
    if kind == "let":
        return len(thing) == 3 and are_let_rows(thing[1])
    return kind in PARTS_OF and len(thing) == 1 + PARTS_OF[kind]


def is_body(thing):
    """Whether it is a part that is small enough for a body."""
    # It ends at the first part too many: a thing may hold one thing very often.
    waiting = [(thing, 1)]
    many = 0
    while waiting:
        part, deep = waiting.pop()
        many += 1
        if many > MOST_PARTS or deep > MOST_DEEP or not is_part_by_itself(part):
            return False
        waiting.extend([(inner, deep + 1) for inner in within(part)])
    return True


def is_function(thing):
    """Whether it is built as a function is."""
    if not is_tuple_of(thing, 3):
        return False
    name, names, body = thing
    if not is_name(name) or not isinstance(names, tuple) or len(names) > MOST_THINGS:
        return False
    return all([is_name(own) for own in names]) and is_body(body)


def is_built(thing):
    """Whether it is built as a program is, its names not looked at."""
    if not is_tuple_of(thing, 2):
        return False
    functions, asked = thing
    if not isinstance(functions, tuple) or len(functions) > MOST_FUNCTIONS:
        return False
    return all([is_function(function) for function in functions]) and is_body(asked)


def first_again(names):
    """The first name that stands ahead of itself, or None."""
    for at, name in enumerate(names):
        if name in names[:at]:
            return name
    return None


def names_of(function):
    """The names of the function's things, then those of its lets' rows."""
    return [*function[1], *let_names(function[2])]


def strangers(part, known, funs):
    """The names in the part that name none of these, in the order of places."""
    kind = part[0]
    if kind == "name":
        return [] if part[1] in known else [part[1]]
    if kind == "fun":
        return [] if part[1] in funs else [part[1]]
    inside = known + row_names(part)
    found = []
    for inner in within(part):
        found.extend(strangers(inner, inside, funs))
    return found


def look_at_names(function, funs):
    """Refuses a function where a name hides another one or names nothing."""
    hidden = first_again(names_of(function))
    if hidden is not None:
        raise Hidden(hidden)
    unknown = strangers(function[2], list(function[1]), funs)
    if unknown:
        raise Stranger(unknown[0])


def looked(thing):
    """The program as it was handed in, or refused."""
    if not is_built(thing):
        raise NoProgram("it is not built as a program is")
    funs = [function[0] for function in thing[0]]
    again = first_again(funs)
    if again is not None:
        raise Twice(again)
    for function in all_functions(thing):
        look_at_names(function, funs)
    return thing
