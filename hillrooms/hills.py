"""Runs made into rows of hills and valleys."""

from hillrooms.errors import BadRow
from hillrooms.ops import is_count


def is_entry(thing):
    """Whether a thing is a triple of two numbers from 0 on and a tuple."""
    if not isinstance(thing, tuple) or len(thing) != 3:
        return False
    return is_count(thing[0]) and is_count(thing[1]) and isinstance(thing[2], tuple)


def check_run(run):
    """Refuse a run with an entry that is none."""
    for index, entry in enumerate(run):
        if not is_entry(entry):
            raise BadRow(index)


def cut_up(run):
    """The segments of a run as triples (hill, valley, the index of the first entry)."""
    found = []
    for index, (needed, held, _) in enumerate(run):
        hill = needed
        first = index
        # No segment ends ahead of a place that needs as much, or that holds as little.
        while found and (found[-1][0] <= hill or found[-1][1] >= held):
            before, _, first = found.pop()
            hill = max(before, hill)
        found.append((hill, held, first))
    return found


def steps_within(run, first, end):
    """The steps of the entries from the first one up to the end, one behind the other."""
    return tuple([step for _, _, steps in run[first:end] for step in steps])


def hills(run):
    """The row of a run."""
    check_run(run)
    segments = cut_up(run)
    ends = [first for _, _, first in segments[1:]] + [len(run)]
    found = []
    for (hill, valley, first), end in zip(segments, ends):
        found.append((hill, valley, steps_within(run, first, end)))
    return tuple(found)
