"""Parts of programs: what stands within a part, and how great it is."""

# How many parts a part of each kind has that is built of nothing but parts.
PARTS_OF = {
    "give": 2, "plus": 2, "less": 2, "times": 2, "below": 2,
    "when": 3, "pair": 2, "left": 1, "right": 1,
}


def row_names(part):
    """The names of a let's rows, in their order; none where part is no let."""
    if part[0] != "let":
        return []
    return [row[0] for row in part[1]]


def within(part):
    """The parts that stand straight within the part, in their order."""
    kind = part[0]
    if kind == "let":
        return [row[1] for row in part[1]] + [part[2]]
    if kind in PARTS_OF:
        return list(part[1:])
    return []


def all_in(part):
    """The part and all within it, each one ahead of those within it."""
    # Parts that came by steps may be too deep for a function that calls itself.
    found = []
    waiting = [part]
    while waiting:
        one = waiting.pop()
        found.append(one)
        waiting.extend(within(one)[::-1])
    return found


def let_names(part):
    """The names of the rows of all lets in the part: let by let, row by row."""
    found = []
    for one in all_in(part):
        found.extend(row_names(one))
    return found


def many_in(part):
    """How many parts there are: it, and all within it."""
    return 1 + sum([many_in(inner) for inner in within(part)])


def deep_in(part):
    """How deep the part is: one, and the deepest within it."""
    return 1 + max([deep_in(inner) for inner in within(part)], default=0)
