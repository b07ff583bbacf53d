"""The judge of papers: what something, whatever it is, shows of a program."""

from lazywebs.kinds import is_tuple_of, is_whole
from lazywebs.nodes import Nodes
from lazywebs.rules import behind


def is_below(thing, many):
    """Whether it is a whole number from 0 on, below so many."""
    return is_whole(thing) and 0 <= thing < many


def are_below(thing, many):
    """Whether it is a tuple of whole numbers from 0 on, all below so many."""
    return isinstance(thing, tuple) and all([is_below(one, many) for one in thing])


def is_node(thing, spots, number):
    """Whether it is a node of the program that may have this number."""
    if not is_tuple_of(thing, 2) or not is_below(thing[0], spots.many()):
        return False
    return are_below(thing[1], number) and len(thing[1]) == spots.many_names(thing[0])


def table_of(program, nodes):
    """A table of the nodes with the numbers that they have in the paper, or None."""
    if not isinstance(nodes, tuple):
        return None
    table = Nodes(program)
    for number, node in enumerate(nodes):
        if not is_node(node, table.spots, number) or table.node(node[0], node[1]) != number:
            return None
    return table


def is_come(thing, many):
    """Whether it is built as a worth of so many nodes is, or as a fault."""
    if is_tuple_of(thing, 2):
        if thing[0] == "number":
            return is_whole(thing[1])
        return thing[0] == "fault" and isinstance(thing[1], str)
    if not is_tuple_of(thing, 3):
        return False
    if thing[0] == "pair":
        return are_below(thing[1:], many)
    return thing[0] == "function" and isinstance(thing[1], str) and are_below(thing[2], many)


def are_lines(thing, many):
    """Whether it is built as lines about so many nodes are."""
    if not isinstance(thing, tuple):
        return False
    for at, line in enumerate(thing):
        if not is_tuple_of(line, 3) or not is_below(line[0], many):
            return False
        if not are_below(line[1], at) or not is_come(line[2], many):
            return False
    return True


def is_way(thing, many, many_lines):
    """Whether it is built as a way over so many nodes is, by so many lines."""
    if not isinstance(thing, tuple) or not all([is_tuple_of(one, 2) for one in thing]):
        return False
    return all([is_below(node, many) and are_below(uses, many_lines) for node, uses in thing])


def shown_by(line):
    """What the line says of its node."""
    come = line[2]
    return come if come[0] == "fault" else ("worth", come)


def behind_uses(table, lines, node, uses):
    """What comes of the node behind the lines of uses.

    None where they aren't about its first needs, one behind the other, or one
    stands behind a fault.
    """
    worths = []
    told = behind(table, node, worths)
    for use in uses:
        if told[0] not in ("need", "call") or told[1] != lines[use][0]:
            return None
        told = shown_by(lines[use])
        if told[0] == "worth":
            worths.append(told[1])
            told = behind(table, node, worths)
    return told


def are_right(table, lines):
    """Whether all of the lines are right."""
    # In their order and no further than the first that isn't: the worths that
    # a line uses are then always ones that can be.
    for line in lines:
        if behind_uses(table, lines, line[0], line[1]) != shown_by(line):
            return False
    return True


def is_way_right(table, lines, way, asked):
    """Whether the way, of a node or more, begins as it should and goes round."""
    nodes = [node for node, _ in way]
    if nodes[0] != asked:
        return False
    for at, (node, uses) in enumerate(way):
        told = behind_uses(table, lines, node, uses)
        if told is None or told[0] not in ("need", "call"):
            return False
        if told[1] not in (nodes if at + 1 == len(way) else [nodes[at + 1]]):
            return False
    return True


def shows(program, thing):
    """What the thing shows as a paper of the program, or None."""
    if not is_tuple_of(thing, 3):
        return None
    nodes, lines, way = thing
    table = table_of(program, nodes)
    if table is None or not are_lines(lines, len(nodes)) or not is_way(way, len(nodes), len(lines)):
        return None
    if not are_right(table, lines):
        return None
    # Where the paper hasn't the asked node this is a number that is none of its.
    asked = table.seen(table.spots.body(""), ())
    if way:
        return ("ring",) if is_way_right(table, lines, way, asked) else None
    if not lines or lines[-1][0] != asked:
        return None
    return shown_by(lines[-1])
