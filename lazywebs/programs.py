"""Programs: their functions, their places, what a function wants."""

from lazywebs.parts import all_in, many_in


def all_functions(program):
    """The functions in their order, and asked behind them as one named ""."""
    functions, asked = program
    return [*functions, ("", (), asked)]


def number_of(program, f):
    """The number of the function, that of asked for ""."""
    return [function[0] for function in all_functions(program)].index(f)


def function_of(program, f):
    """The function of this name, asked for ""."""
    return all_functions(program)[number_of(program, f)]


def places(program):
    """By its number each place: its part, and the number of its function."""
    found = []
    for number, function in enumerate(all_functions(program)):
        found.extend([(part, number) for part in all_in(function[2])])
    return found


def body_place(program, f):
    """The place of the function's body."""
    ahead = number_of(program, f)
    return sum([many_in(function[2]) for function in all_functions(program)[:ahead]])


def wants(program, f):
    """How many things the function wants."""
    return len(function_of(program, f)[1])


def most_wanted(program):
    """How many things the function wants that wants the most."""
    return max([len(function[1]) for function in program[0]], default=0)
