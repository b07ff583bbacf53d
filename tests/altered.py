"""A nested thing with any one thing in it changed."""

WORDS = ("number", "function", "pair", "great", "fault", "ring", "f", "")


def other_numbers(n):
    yield from (n + 1, n - 1, -1, 0, 10 ** 60, True, False, None, "", str(n), (n,), [n])


def other_texts(text):
    yield from (word for word in WORDS if word != text)
    yield from (None, 0, True, (text,), text + "s")


def other_tuples(things):
    yield from (list(things), (), None, 0, True, "", (things,))
    for k in range(len(things)):
        yield things[:k] + things[k + 1:]
        yield things[:k] + things[k:k + 1] + things[k:]
        if k:
            yield things[:k - 1] + (things[k], things[k - 1]) + things[k + 1:]
    for more in (0, (), "number"):
        yield things + (more,)


def changes(thing):
    """The thing with each thing in it changed, one at a time, in each way told above."""
    if isinstance(thing, tuple):
        yield from other_tuples(thing)
        for k, inner in enumerate(thing):
            for changed in changes(inner):
                yield thing[:k] + (changed,) + thing[k + 1:]
    elif isinstance(thing, str):
        yield from other_texts(thing)
    elif isinstance(thing, int):
        yield from other_numbers(thing)
