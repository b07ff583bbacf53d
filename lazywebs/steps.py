"""The steps of rows, as the work of a machine goes through them."""

from lazywebs.parts import PARTS_OF


def put_number(work, call, step):
    """Puts a new number on the pile."""
    work.make_way()
    work.put(call, step, 0)


def put_function(work, call, step):
    """Puts a function on the pile: a new cell, or the one that is there at first."""
    whole = work.whole(step[1])
    if whole is not None:
        call.pile.append(whole)
        return
    work.make_way()
    work.put(call, ("function", step[1], ()), 0)


def put_thing(work, call, step):
    """Puts a thing of the function on the pile."""
    call.pile.append(call.things[step[1]])


def put_local(work, call, step):
    """Puts a local on the pile."""
    call.pile.append(call.own[step[1]])


def put_kind(work, call, step):
    """Puts a new cell of a kind in the place of its parts."""
    many = PARTS_OF[step[0]]
    # A sweep may pass over some of the parts: they are read behind it.
    work.make_way()
    work.put(call, (step[0], *call.pile[-many:]), many)


def put_now(work, call, step):
    """Puts the number that comes of two in their place."""
    a, b = [work.worth(one)[1] for one in call.pile[-2:]]
    n = work.come(step[1], a, b)
    work.make_way()
    work.put(call, ("number", n), 2)


def make_room(work, call, step):
    """Makes bare cells as locals."""
    _, first, many = step
    for k in range(first, first + many):
        work.make_way()
        call.own[k] = work.bare()


def tie_local(work, call, step):
    """Makes a local the same as the top, which goes."""
    work.tie(call.own[step[1]], work.take(call))


def turn(work, call, step):
    """Goes through the rows that the number on the top chooses."""
    n = work.worth(work.take(call))[1]
    chosen = step[1] if n != 0 else step[2]
    call.todo.extend(chosen[::-1])


def put_side(work, call, step):
    """Puts the one or the other cell of a pair in its place."""
    _, one, other = work.worth(work.take(call))
    call.pile.append(one if step[1] == "left" else other)


def go_on(work, call, step):
    """Nothing is left to do for this step."""


STEPS = {
    "number": put_number, "fun": put_function, "thing": put_thing, "local": put_local,
    "give": put_kind, "plus": put_kind, "less": put_kind, "times": put_kind,
    "below": put_kind, "when": put_kind, "pair": put_kind, "left": put_kind,
    "right": put_kind, "room": make_room, "tie": tie_local, "do": go_on,
    "now": put_now, "turn": turn, "side": put_side, "back": go_on,
}
