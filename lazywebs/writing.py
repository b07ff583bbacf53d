"""Programs written as texts."""

from lazywebs.parts import row_names, within


def words_of(part):
    """The words of the part: its kind's word, then those of its parts."""
    kind = part[0]
    if kind == "number":
        return [str(part[1])]
    if kind == "name":
        return ["." + part[1]]
    if kind == "fun":
        return [":" + part[1]]
    names = row_names(part)
    words = [kind, str(len(names))] if kind == "let" else [kind]
    for at, inner in enumerate(within(part)):
        if at < len(names):
            words.append("." + names[at])
        words.extend(words_of(inner))
    return words


def part_text(part):
    """The text of the part."""
    return " ".join(words_of(part))


def function_text(function):
    """The row of the function."""
    name, names, body = function
    return " ".join([name, *["." + own for own in names], "=", *words_of(body)])


def written(program):
    """The text of the program: a row for each function, and that of asked."""
    rows = [function_text(function) for function in program[0]]
    return "\n".join([*rows, "? " + part_text(program[1])])
