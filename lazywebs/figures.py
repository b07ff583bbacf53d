"""Which whole numbers are small enough, and what comes of two of them."""

# The least number that has more than sixty figures.
BEYOND = 10 ** 60


def fits(n):
    """Whether the whole number has at most sixty figures."""
    # Python writes out no number of some thousand figures, so none are counted.
    return abs(n) < BEYOND


def come_of(kind, a, b):
    """The number that comes of two, or None where it has too many figures."""
    if kind == "plus":
        n = a + b
    elif kind == "less":
        n = a - b
    elif kind == "times":
        n = a * b
    else:
        n = 1 if a < b else 0
    return n if fits(n) else None
