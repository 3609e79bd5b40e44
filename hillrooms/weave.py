"""Rows put together into one row."""


def by_itself(row):
    """The segments of a row, each taken from its own beginning on."""
    found = []
    below = 0
    for hill, valley, steps in row:
        found.append((hill - below, valley - below, steps))
        below = valley
    return found


def piled(segments):
    """The row of segments that are put one behind the other."""
    found = []
    below = 0
    for hill, valley, steps in segments:
        found.append((below + hill, below + valley, steps))
        below += valley
    return tuple(found)


def weave(rows):
    """The row of all segments of some rows, the greatest fall first."""
    segments = [segment for row in rows for segment in by_itself(row)]
    # Sorting keeps equal falls in their places: the earlier row first, then the earlier segment.
    return piled(sorted(segments, key=lambda segment: segment[1] - segment[0]))
