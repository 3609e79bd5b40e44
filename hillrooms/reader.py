"""Programs read from their texts."""

from hillrooms.errors import BadText
from hillrooms.programs import check_count, check_form
from hillrooms.scanner import scanned

LONGEST_TEXT = 24000


class Draft:
    """A joint as its text tells it, right or not; its parts are numbers of drafts."""

    def __init__(self, offset, op):
        self.offset = offset
        self.op = op
        self.told = []
        self.parts = []


def read_op(kind, signs):
    """The op of a joint that begins so."""
    if kind == "[":
        return "row"
    # A head with the word row is no joint: it gets an op that none is.
    return "" if signs == "row" else signs


def drafted(tokens):
    """The drafts of all joints: they begin in a text in the order of their numbers."""
    drafts = []
    opened = []
    for offset, kind, signs, begins in tokens:
        if begins:
            if opened:
                opened[-1].parts.append(len(drafts))
            drafts.append(Draft(offset, read_op(kind, signs)))
        elif kind == "word":
            drafts[-1].told.append(signs)
        elif kind == "number":
            drafts[-1].told.append(int(signs))
        elif kind == "(":
            opened.append(drafts[-1])
        elif kind == ")":
            opened.pop()
    return drafts


def built(drafts):
    """The program of right drafts."""
    done = [()] * len(drafts)
    for number in reversed(range(len(drafts))):
        draft = drafts[number]
        parts = [done[part] for part in draft.parts]
        done[number] = (draft.op, tuple(draft.told), tuple(parts))
    return done[0]


def read(text):
    """The program that a text tells; else the first fault that is met is raised."""
    if len(text) > LONGEST_TEXT:
        raise BadText(LONGEST_TEXT)
    drafts = drafted(scanned(text))
    for number, draft in enumerate(drafts):
        check_count(number)
        check_form(draft.op, draft.told, len(draft.parts), draft.offset)
    return built(drafts)
