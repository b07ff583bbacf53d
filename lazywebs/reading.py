"""Texts read to the programs of which they are the texts."""

from lazywebs.errors import NoText
from lazywebs.looks import MOST_DEEP, MOST_FUNCTIONS, MOST_PARTS, MOST_ROWS, MOST_THINGS, is_name, looked
from lazywebs.parts import PARTS_OF

FIGURES = "0123456789"
MOST_FIGURES = 60


def is_number_word(word):
    """Whether it is a number as numbers are written."""
    figures = word[1:] if word.startswith("-") else word
    if not 1 <= len(figures) <= MOST_FIGURES or not all([sign in FIGURES for sign in figures]):
        return False
    return word == "0" or not figures.startswith("0")


class Row:
    """A row of a text, gone through word by word."""

    def __init__(self, number, words):
        self._number = number
        self._words = words
        self._at = 0
        self._parts = 0

    def next_word(self):
        """The next word; behind the last one a word without signs, which is none."""
        return self._words[self._at] if self._at < len(self._words) else ""

    def look(self, can_stand):
        """Refuses the next word where it can't stand there."""
        if not can_stand:
            raise NoText(self._number, self._at)

    def take(self, can_stand):
        """The next word, which is passed, or refused where it can't stand there."""
        self.look(can_stand)
        self._at += 1
        return self._words[self._at - 1]

    def end(self):
        """Refuses what stands behind the last word that can stand."""
        self.look(self._at == len(self._words))

    def next_name(self):
        """The name that is the next word."""
        return self.take(is_name(self.next_word()))

    def name_behind(self, sign):
        """The name that stands behind this sign in the next word."""
        word = self.next_word()
        return self.take(word.startswith(sign) and is_name(word[1:]))[1:]

    def part(self, deep):
        """The part whose first word is the next one, so deep in its body."""
        self._parts += 1
        self.look(deep <= MOST_DEEP and self._parts <= MOST_PARTS)
        word = self.next_word()
        if is_number_word(word):
            return ("number", int(self.take(True)))
        if word.startswith("."):
            return ("name", self.name_behind("."))
        if word.startswith(":"):
            return ("fun", self.name_behind(":"))
        if word == "let":
            return self._let(deep)
        self.take(word in PARTS_OF)
        return (word, *[self.part(deep + 1) for _ in range(PARTS_OF[word])])

    def _let(self, deep):
        """The let whose first word is the next one."""
        self.take(True)
        counts = [str(many) for many in range(1, MOST_ROWS + 1)]
        many = int(self.take(self.next_word() in counts))
        rows = [(self.name_behind("."), self.part(deep + 1)) for _ in range(many)]
        return ("let", tuple(rows), self.part(deep + 1))


def function_of_row(row):
    """The function whose row this is."""
    name = row.next_name()
    names = []
    while row.next_word() != "=":
        row.look(len(names) < MOST_THINGS)
        names.append(row.name_behind("."))
    row.take(True)
    return (name, tuple(names), part_of_row(row))


def part_of_row(row):
    """The part that the row has behind the words that were taken."""
    part = row.part(1)
    row.end()
    return part


def read(text):
    """The program of which this is the text, or refused."""
    functions = []
    asked = None
    lines = text.split("\n")
    for number, line in enumerate(lines):
        row = Row(number, line.split(" "))
        row.look(asked is None)
        if row.next_word() == "?":
            row.take(True)
            asked = part_of_row(row)
        else:
            row.look(len(functions) < MOST_FUNCTIONS)
            functions.append(function_of_row(row))
    if asked is None:
        raise NoText(len(lines), 0)
    return looked((tuple(functions), asked))
