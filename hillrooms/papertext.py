"""Texts of papers, written and read."""

from hillrooms.errors import BadText
from hillrooms.numberwords import numbers_told


def paper_text(paper):
    """The text of a paper."""
    peak, order, rows = paper
    lines = [f"peak {peak}", " ".join(["order"] + [str(number) for number in order])]
    lines.extend([" ".join([f"{hill}:{valley}" for hill, valley in row]) for row in rows])
    return "\n".join(lines)


def words_at(lines, index):
    """The words of a line; a missing line has what an empty one has, and both are bad everywhere."""
    return lines[index].split(" ") if index < len(lines) else [""]


def headed_numbers(lines, index, head):
    """The numbers of a line behind its first word, one at least."""
    words = words_at(lines, index)
    numbers = numbers_told(words[1:])
    if words[0] != head or len(numbers) == 0 or None in numbers:
        raise BadText(index)
    return numbers


def pairs_at(lines, index):
    """The pairs of a line, one at least."""
    found = []
    for word in words_at(lines, index):
        pair = numbers_told(word.split(":"))
        if len(pair) != 2 or None in pair:
            raise BadText(index)
        found.append(pair)
    return tuple(found)


def paper_of(text):
    """The paper that a text tells, right or not."""
    lines = text.split("\n")
    peaks = headed_numbers(lines, 0, "peak")
    if len(peaks) != 1:
        raise BadText(0)
    order = headed_numbers(lines, 1, "order")
    end = 2 + len(order)
    rows = tuple([pairs_at(lines, index) for index in range(2, end)])
    if len(lines) > end:
        raise BadText(end)
    return peaks[0], order, rows
