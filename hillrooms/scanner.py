"""Texts of programs taken apart, sign by sign, into words, numbers and signs."""

from hillrooms.errors import BadText, TooMany
from hillrooms.ops import LETTERS, LONGEST_WORD
from hillrooms.programs import MOST_JOINTS

DIGITS = "0123456789"
LONGEST_NUMBER = 7

# What may come next in each state: where a joint begins, in a head, just behind
# a "[", further on in a row, and where a joint is closed.
NEXT = {
    "begin": ("word", "["),
    "head": ("word", "number", "(", ",", ")"),
    "fresh": ("number",),
    "row": ("number", "]"),
    "closed": (",", ")"),
}

# The state behind a sign.
BEHIND = {
    "[": "fresh",
    "]": "closed",
    "(": "begin",
    ",": "begin",
    ")": "closed",
}


def kind_of(sign):
    """What begins with a sign: a word, a number, or the sign alone."""
    if sign in LETTERS:
        return "word"
    if sign in DIGITS:
        return "number"
    return sign


def gap_end(text, at):
    """The offset of the first sign from at on that is no blank and no line feed."""
    while at < len(text) and text[at] in " \n":
        at += 1
    return at


def run_end(text, at, signs, most):
    """The offset behind the signs of one kind from at on, of most of them if there are more."""
    end = at
    while end < len(text) and end - at < most and text[end] in signs:
        end += 1
    return end


def token_end(text, at, kind):
    """The offset behind the word, number or sign at an offset."""
    if kind == "word":
        end = run_end(text, at, LETTERS, LONGEST_WORD)
    elif kind == "number":
        end = run_end(text, at, DIGITS, 1 if text[at] == "0" else LONGEST_NUMBER)
    else:
        return at + 1
    if end < len(text) and kind_of(text[end]) in ("word", "number"):
        raise BadText(end)
    return end


def may_stand(kind, state, depth):
    """Whether a kind may come next, with so many brackets open."""
    if kind in (",", ")") and depth == 0:
        return False
    return kind in NEXT[state]


def state_behind(kind, state):
    """The state behind a word, a number or a sign that was met in a state."""
    if kind == "word":
        return "head"
    if kind == "number":
        return "head" if state == "head" else "row"
    return BEHIND[kind]


def depth_behind(kind, depth):
    """How many brackets are open behind a word, a number or a sign."""
    if kind == ")":
        return depth - 1
    if kind != "(":
        return depth
    if depth == MOST_JOINTS:
        raise TooMany(MOST_JOINTS + 1)
    return depth + 1


def scanned(text):
    """A tuple (offset, kind, signs, whether a joint begins) for each word, number and sign."""
    found = []
    state = "begin"
    depth = 0
    at = gap_end(text, 0)
    while at < len(text):
        kind = kind_of(text[at])
        if not may_stand(kind, state, depth):
            raise BadText(at)
        end = token_end(text, at, kind)
        found.append((at, kind, text[at:end], state == "begin"))
        depth = depth_behind(kind, depth)
        state = state_behind(kind, state)
        at = gap_end(text, end)
    if depth > 0 or state not in ("head", "closed"):
        raise BadText(len(text))
    return found
