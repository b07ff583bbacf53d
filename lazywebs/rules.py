"""What a node needs, and what comes behind its needs, by the part at its place."""

from lazywebs.figures import come_of


def seen_within(nodes, node, k):
    """The node seen at the place of the k-th part, from 0, within the node's."""
    place, things = node
    return nodes.seen(nodes.spots.inner(place, k), things)


def same_as(need, worths):
    """Of a node whose last need is this one, with the worths from there on."""
    return ("worth", worths[0]) if worths else need


def call_of(nodes, f, things, worths):
    """Of a node whose last need is the call of the function with these things."""
    return same_as(("call", nodes.node(nodes.spots.body(f), things)), worths)


def behind_number(nodes, node, worths):
    """Behind the needs of a number: it has none."""
    return ("worth", nodes.spots.part(node[0]))


def behind_name(nodes, node, worths):
    """Behind the needs of a name."""
    return same_as(("need", nodes.seen(node[0], node[1])), worths)


def behind_let(nodes, node, worths):
    """Behind the needs of a let."""
    return same_as(("need", seen_within(nodes, node, -1)), worths)


def behind_fun(nodes, node, worths):
    """Behind the needs of a fun part."""
    f = nodes.spots.part(node[0])[1]
    if nodes.spots.wanted(f) > 0:
        return ("worth", ("function", f, ()))
    return call_of(nodes, f, (), worths)


def behind_give(nodes, node, worths):
    """Behind the needs of a give."""
    if not worths:
        return ("need", seen_within(nodes, node, 0))
    if worths[0][0] != "function":
        return ("fault", "function")
    _, f, ahead = worths[0]
    things = (*ahead, seen_within(nodes, node, 1))
    if len(things) < nodes.spots.wanted(f):
        return ("worth", ("function", f, things))
    return call_of(nodes, f, things, worths[1:])


def behind_two(nodes, node, worths):
    """Behind the needs of plus, less, times and below."""
    if any([worth[0] != "number" for worth in worths]):
        return ("fault", "number")
    if len(worths) < 2:
        return ("need", seen_within(nodes, node, len(worths)))
    n = come_of(nodes.spots.part(node[0])[0], worths[0][1], worths[1][1])
    return ("fault", "great") if n is None else ("worth", ("number", n))


def behind_when(nodes, node, worths):
    """Behind the needs of a when."""
    if not worths:
        return ("need", seen_within(nodes, node, 0))
    if worths[0][0] != "number":
        return ("fault", "number")
    chosen = 1 if worths[0][1] != 0 else 2
    return same_as(("need", seen_within(nodes, node, chosen)), worths[1:])


def behind_pair(nodes, node, worths):
    """Behind the needs of a pair: it has none."""
    one = seen_within(nodes, node, 0)
    return ("worth", ("pair", one, seen_within(nodes, node, 1)))


def behind_side(nodes, node, worths):
    """Behind the needs of left and right."""
    if not worths:
        return ("need", seen_within(nodes, node, 0))
    if worths[0][0] != "pair":
        return ("fault", "pair")
    _, one, other = worths[0]
    is_left = nodes.spots.part(node[0])[0] == "left"
    return same_as(("need", one if is_left else other), worths[1:])


RULES = {
    "number": behind_number, "name": behind_name, "let": behind_let,
    "fun": behind_fun, "give": behind_give, "pair": behind_pair,
    "plus": behind_two, "less": behind_two, "times": behind_two, "below": behind_two,
    "when": behind_when, "left": behind_side, "right": behind_side,
}


def behind(nodes, number, worths):
    """What comes behind the first needs of the node, of which these are the worths.

    The next need as ("need", number) or ("call", number), or, behind them all,
    ("worth", worth) or ("fault", word).
    """
    node = nodes.told(number)
    rule = RULES[nodes.spots.part(node[0])[0]]
    return rule(nodes, node, worths)
