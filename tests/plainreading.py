"""Points 25 and 26 worked out another way, to compare: a list of what is still wanted in a row."""

import re

from plainlooks import MANY, due

NUMBER, NAME, THING, FUN = "0|-?[1-9][0-9]{0,59}", "[a-z]{1,8}", r"\.[a-z]{1,8}", ":[a-z]{1,8}"


def behind(wanted, word, ahead):
    """What is wanted behind this word, where that was wanted; None where it can't stand.

    wanted is a list, what is next last: words, or ("part", how deep); ahead
    how many parts the row has so far.
    """
    *left, want = wanted
    if want == "end":
        return None
    if want == "count":
        return None
    if want == "thing":
        return left if re.fullmatch(THING, word) else None
    if want[0] == "names":
        if word == "=":
            return left
        return left + [("names", want[1] + 1)] if want[1] < 4 and re.fullmatch(THING, word) else None
    if want[0] == "rows":
        if word not in ("1", "2", "3", "4"):
            return None
        part = ("part", want[1])
        return left + [part] + [part, "thing"] * int(word)
    deep = want[1]
    if deep > 12 or ahead >= 60:
        return None
    if re.fullmatch(NUMBER, word) or re.fullmatch(THING, word) or re.fullmatch(FUN, word):
        return left
    if word == "let":
        return left + [("rows", deep + 1)]
    return left + [("part", deep + 1)] * MANY[word] if word in MANY else None


def first_wrong(words, wanted):
    """The number of the first word that can't stand, or None where all can."""
    parts = 0
    for at, word in enumerate(words):
        is_part = wanted[-1][0] == "part"
        wanted = behind(wanted, word, parts)
        if wanted is None:
            return at
        parts += is_part
    return None if wanted == ["end"] else len(words)


def wrong_of_row(words, functions_ahead, is_over):
    """The number of the first word of a row that can't stand, or None."""
    if is_over:
        return 0
    if words[0] == "?":
        at = first_wrong(words[1:], ["end", ("part", 1)])
    elif not re.fullmatch(NAME, words[0]) or functions_ahead == 8:
        return 0
    else:
        at = first_wrong(words[1:], ["end", ("part", 1), ("names", 0)])
    return None if at is None else at + 1


def part_of(words):
    """The part of words that can all stand; they are taken from the list."""
    word = words.pop(0)
    if word == "let":
        rows = []
        for _ in range(int(words.pop(0))):
            x = words.pop(0)[1:]
            rows.append((x, part_of(words)))
        return ("let", tuple(rows), part_of(words))
    if word in MANY:
        return (word, *[part_of(words) for _ in range(MANY[word])])
    kinds = {".": "name", ":": "fun"}
    return (kinds[word[0]], word[1:]) if word[0] in kinds else ("number", int(word))


def outcome(text):
    """("told", program), ("NoText", row, word), or a refusal of 6 with its name."""
    functions, asked = [], None
    rows = text.split("\n")
    for number, row in enumerate(rows):
        words = row.split(" ")
        wrong = wrong_of_row(words, len(functions), asked is not None)
        if wrong is not None:
            return ("NoText", number, wrong)
        if words[0] == "?":
            asked = part_of(words[1:])
        else:
            sign = words.index("=")
            functions.append((words[0], tuple(x[1:] for x in words[1:sign]), part_of(words[sign + 1:])))
    if asked is None:
        return ("NoText", len(rows), 0)
    program = (tuple(functions), asked)
    come = due(program)
    return ("told", program) if come == ("told",) else come
