"""Papers of sweeps: what is kept, with a way to each cell of it."""

from lazywebs.cells import named_by
from lazywebs.kinds import is_tuple_of, is_whole


def ways_from(cells, roots):
    """By each cell that is kept a shortest way to it from a root."""
    ways = {root: (root,) for root in roots}
    waiting = list(ways)
    while waiting:
        found = []
        for one in waiting:
            for other in named_by(cells[one]):
                if other not in ways:
                    ways[other] = (*ways[one], other)
                    found.append(other)
        waiting = found
    return ways


def sweep_paper(cells, roots):
    """A paper of what a sweep of the cells keeps."""
    ways = ways_from(cells, roots)
    kept = sorted(ways)
    return (tuple(kept), tuple([ways[one] for one in kept]))


def are_whole(thing):
    """Whether it is a tuple of whole numbers."""
    return isinstance(thing, tuple) and all([is_whole(one) for one in thing])


def is_rising(numbers):
    """Whether each number is greater than the one ahead."""
    return all([ahead < behind for ahead, behind in zip(numbers, numbers[1:])])


def is_way(thing, named, starts, end):
    """Whether it is a way from one of the starts to the end, by cells that name the next."""
    if not isinstance(thing, tuple) or not thing or thing[-1] != end:
        return False
    if not are_whole(thing) or thing[0] not in starts:
        return False
    return all([behind in named.get(ahead, []) for ahead, behind in zip(thing, thing[1:])])


def lets_sweep(cells, roots, thing):
    """Whether the thing is a paper of a sweep of the cells."""
    if not is_tuple_of(thing, 2):
        return False
    kept, ways = thing
    if not are_whole(kept) or not is_rising(kept) or not is_tuple_of(ways, len(kept)):
        return False
    named = {number: named_by(cell) for number, cell in cells.items()}
    starts = {root: True for root in roots}
    for way, end in zip(ways, kept):
        # It ends at the first wrong one: a thing may hold one long way very often.
        if not is_way(way, named, starts, end):
            return False
    found = {one: True for one in kept}
    needed = list(roots)
    for one in kept:
        needed.extend(named.get(one, []))
    return all([one in found for one in needed])
