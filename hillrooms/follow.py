"""Rows compared: whether one may run in the place of another."""

from hillrooms.ops import is_count


def is_segment(thing):
    """Whether a thing is a pair or a triple that begins with two numbers from 0 on."""
    if not isinstance(thing, tuple) or len(thing) not in (2, 3):
        return False
    return is_count(thing[0]) and is_count(thing[1])


def is_row(thing):
    """Whether a thing is a tuple of segments."""
    return isinstance(thing, tuple) and all([is_segment(segment) for segment in thing])


def reached_next(one, segment, reached):
    """Whether p(j) may be 0, 1, .., where reached tells it of p(j - 1), and segment is the j-th of two."""
    hill = segment[0]
    valley = segment[1]
    # Nothing is held behind no segment at all, so 0 stays what it was.
    found = [reached[0]]
    climbs = reached[0]
    for index, (height, held) in enumerate([part[:2] for part in one]):
        climbs = reached[index + 1] or (climbs and height <= hill)
        found.append(climbs and held <= valley)
    return found


def follows(one, two):
    """Whether both are rows, and one follows two."""
    if not is_row(one) or not is_row(two):
        return False
    reached = [True] + [False] * len(one)
    for segment in two:
        reached = reached_next(one, segment, reached)
    return reached[-1]
