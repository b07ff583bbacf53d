"""Cells: which ones a cell names, and which are the same as others."""

# What a cell is that is done.
WORTHS = ("number", "function", "pair")


def named_by(cell):
    """The numbers of the cells that the cell names, in their order."""
    kind = cell[0]
    if kind == "function":
        return list(cell[2])
    if kind in ("number", "call", "bare"):
        return []
    return list(cell[1:])


def renamed(cell, ends):
    """The cell with each that it names and that is the same as another passed over."""
    kind = cell[0]
    if kind in ("number", "call", "bare"):
        return cell
    named = [ends.get(one, one) for one in named_by(cell)]
    return ("function", cell[1], tuple(named)) if kind == "function" else (kind, *named)


def end_of(web, number):
    """The cell that this one is in the end, or None where it comes round."""
    passed = 0
    while web[number][0] == "same":
        # A way by more cells than there are comes round.
        if passed == len(web):
            return None
        passed += 1
        number = web[number][1]
    return number


def way_to_end(web, number, ends):
    """The cells passed over from this one on, and what is named in their place."""
    way = []
    places = {}
    while web[number][0] == "same" and number not in ends and number not in places:
        places[number] = len(way)
        way.append(number)
        number = web[number][1]
    if number in places:
        return (way, min(way[places[number]:]))
    return (way, ends.get(number, number))


def ends_of(web):
    """By each cell that is the same as another the one in the end.

    Where it comes round that is the least one of the round.
    """
    ends = {}
    for number, cell in web.items():
        if cell[0] == "same" and number not in ends:
            way, end = way_to_end(web, number, ends)
            for one in way:
                ends[one] = end
    return ends
