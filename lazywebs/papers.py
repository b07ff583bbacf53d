"""Papers of what the nodes tell, for the judge to let by."""

from lazywebs.doing import Doer
from lazywebs.errors import More
from lazywebs.rules import behind


def lines_of(done):
    """Of done nodes but the rings the lines, and by each node its line's number."""
    lines = []
    numbers = {}
    for node, needs, come in done:
        if come[0] != "ring":
            uses = tuple([numbers[need] for need in needs])
            numbers[node] = len(lines)
            lines.append((node, uses, come[1] if come[0] == "worth" else come))
    return (lines, numbers)


def way_of(doer, lines, numbers):
    """The way round, from the node that is asked on, where that is a ring."""
    needs_of = {node: needs for node, needs, _ in doer.done()}
    uses_of = {}
    node = doer.asked()
    while node not in uses_of:
        uses = [numbers[need] for need in needs_of[node] if need in numbers]
        uses_of[node] = tuple(uses)
        node = behind(doer.nodes(), node, [lines[use][2] for use in uses])[1]
    return list(uses_of.items())


def paper_of(program, most):
    """A paper that shows what the nodes tell of what is asked, or More."""
    doer = Doer(program)
    come = doer.do(doer.asked(), most)
    if come[0] == "more":
        raise More("it takes more calls than that")
    lines, numbers = lines_of(doer.done())
    way = way_of(doer, lines, numbers) if come[0] == "ring" else []
    table = doer.nodes()
    nodes = [table.told(number) for number in range(table.many())]
    return (tuple(nodes), tuple(lines), tuple(way))
