"""What a part leads to by plain putting in."""

from lazywebs.putting import given, go_to_step


def come_to(program, part, most):
    """What the closed part comes to, and the words of the steps gone.

    ("worth", part), ("fault", word) or ("more",).
    """
    words = []
    around = []
    while True:
        come = go_to_step(program, part, around)
        if come[0] in ("worth", "fault"):
            return (come, words)
        if len(words) >= most:
            return (("more",), words)
        words.append(come[0])
        part = come[1]


def flat(come):
    """What is come to, told 0 deep."""
    if come[0] != "worth":
        return come
    worth = come[1]
    if worth[0] == "number":
        return ("number", worth[1])
    if worth[0] == "pair":
        return ("pair",)
    head, things = given(worth)
    return ("function", head[1], len(things))


def led(program, part, most):
    """What the closed part comes to, told 0 deep, and the words of the steps."""
    come, words = come_to(program, part, most)
    return (flat(come), words)


def told_of(program, part, deep, most):
    """What the closed part comes to, told so deep."""
    come, _ = come_to(program, part, most)
    if deep == 0 or flat(come) != ("pair",):
        return flat(come)
    _, one, other = come[1]
    return ("pair", told_of(program, one, deep - 1, most), told_of(program, other, deep - 1, most))


def plain_told(program, deep, most):
    """What is asked comes to, told so deep."""
    return told_of(program, program[1], deep, most)
