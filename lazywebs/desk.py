"""A desk, which keeps a program and answers rows by texts."""

from lazywebs.doing import Doer
from lazywebs.errors import NoRow, NoText, Stranger
from lazywebs.looks import is_name, looked
from lazywebs.machine import Machine
from lazywebs.plain import plain_told
from lazywebs.reading import Row, function_of_row, is_number_word, part_of_row
from lazywebs.room import MOST_ROOM, least_room
from lazywebs.rows import all_rows
from lazywebs.writing import written

MOST_TOLD_DEEP = 4
MOST_CALLS = 400


def told_text(told):
    """What is told of a doing, as a text."""
    if told[0] == "pair" and len(told) == 3:
        return f"pair ( {told_text(told[1])} ) ( {told_text(told[2])} )"
    return " ".join([str(word) for word in told])


def machine_of(program):
    """A new machine by lean rows that has all the room there may be."""
    return Machine(program, all_rows(program, True), MOST_ROOM, [])


def plain_answer(program, deep, most):
    """What plain putting in tells."""
    return told_text(plain_told(program, deep, most))


def nodes_answer(program, deep, most):
    """What the nodes tell."""
    return told_text(Doer(program).told(deep, most))


def web_answer(program, deep, most):
    """What the machine tells."""
    return told_text(machine_of(program).told(deep, most))


def calls_answer(program, deep, most):
    """How many calls the nodes and the machine make."""
    doer = Doer(program)
    doer.told(deep, most)
    machine = machine_of(program)
    machine.told(deep, most)
    return f"{doer.calls()} {machine.calls()}"


def room_answer(program, deep, most):
    """The least room of the machine."""
    least = least_room(program, all_rows(program, True), deep, most)
    return "none" if least is None else str(least)


ANSWERS = {
    "plain": plain_answer, "nodes": nodes_answer, "web": web_answer,
    "calls": calls_answer, "room": room_answer,
}


def numbers_up_to(words, bounds):
    """The numbers that the words are, each one within its bound, or refused."""
    if len(words) != len(bounds) or not all([is_number_word(word) for word in words]):
        raise NoRow("there are other words behind")
    numbers = [int(word) for word in words]
    if not all([0 <= n <= bound for n, bound in zip(numbers, bounds)]):
        raise NoRow("a number is beyond its bound")
    return numbers


class Desk:
    """Keeps a program, at first of no functions, 0 being asked."""

    def __init__(self):
        self._program = ((), ("number", 0))

    def say(self, row):
        """The answer to the row, or refused."""
        if not isinstance(row, str):
            raise NoRow("it is no text")
        try:
            return self._answer(row.split(" "))
        except NoText:
            raise NoRow("it has a word that can't stand where it stands") from None

    def _answer(self, words):
        """The answer to the row of these words."""
        kind, *rest = words
        functions, asked = self._program
        if kind == "fun":
            return self._keep(self._with(function_of_row(Row(0, rest))), asked)
        if kind == "take" and len(rest) == 1 and is_name(rest[0]):
            return self._keep(self._without(rest[0]), asked)
        if kind == "ask":
            return self._keep(functions, part_of_row(Row(0, rest)))
        if kind == "show" and not rest:
            return written(self._program).replace("\n", "; ")
        if kind not in ANSWERS:
            raise NoRow("it is no row that a desk is told")
        is_calls = kind == "calls"
        numbers = numbers_up_to(rest, [MOST_CALLS] if is_calls else [MOST_TOLD_DEEP, MOST_CALLS])
        answer = ANSWERS[kind]
        return answer(self._program, 0 if is_calls else numbers[0], numbers[-1])

    def _keep(self, functions, asked):
        """Keeps the program of these functions and asked, or it is refused."""
        self._program = looked((tuple(functions), asked))
        return "ok"

    def _with(self, function):
        """The functions with this one in the place of the one of its name, or last."""
        functions = self._program[0]
        if function[0] not in [own[0] for own in functions]:
            return [*functions, function]
        return [function if own[0] == function[0] else own for own in functions]

    def _without(self, name):
        """The functions but the one of this name."""
        left = [own for own in self._program[0] if own[0] != name]
        if len(left) == len(self._program[0]):
            raise Stranger(name)
        return left
