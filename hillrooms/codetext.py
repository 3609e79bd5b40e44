"""Texts of code, written and read."""

from hillrooms.coderows import is_code_row
from hillrooms.errors import BadCode, BadText
from hillrooms.numberwords import numbers_told


def row_words(row):
    """The words of a row of form, perhaps as numbers."""
    kind = row[0]
    if kind == "row":
        return [kind, row[1], *row[2]]
    if kind == "do":
        _, op, told, parts, at, room_at, room = row
        part_words = [f"{place},{k}" for place, k in parts]
        return [kind, op, *told, ":", *part_words, ":", at, room_at, room]
    return list(row)


def code_text(code):
    """The text of a code."""
    if len(code) == 0:
        raise BadCode(0)
    lines = []
    for index, row in enumerate(code):
        if not is_code_row(row):
            raise BadCode(index)
        lines.append(" ".join([str(word) for word in row_words(row)]))
    return "\n".join(lines)


def do_read(words):
    """What words that begin with "do" tell; () if they are not in three stretches."""
    if words.count(":") != 2:
        return ()
    first = words.index(":")
    second = words.index(":", first + 1)
    told = numbers_told(words[2:first])
    parts = [numbers_told(word.split(",")) for word in words[first + 1:second]]
    return ("do", words[1], told, tuple(parts), *numbers_told(words[second + 1:]))


def row_read(words):
    """What the words of a row tell: a row of form just if they are the words of one."""
    kind = words[0]
    if kind == "do":
        return do_read(words)
    numbers = numbers_told(words[1:])
    if kind == "row":
        return (kind, *numbers[:1], numbers[1:])
    if kind == "in":
        return (kind, *numbers[:1], *words[2:3], *numbers[2:])
    return (kind, *numbers)


def code_of(text):
    """The code that a text tells."""
    found = []
    for index, line in enumerate(text.split("\n")):
        row = row_read(line.split(" "))
        if not is_code_row(row):
            raise BadText(index)
        found.append(row)
    return tuple(found)
