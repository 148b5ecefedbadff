"""The rows of a record: which parts each has, and whether a thing is one."""

from handedon.asks import CLOSED, is_how
from handedon.deeds import MOST_GIVERS
from handedon.worths import is_below, is_word, is_worth

MOST_TRIES = 30
# For each row's first word the kinds of its other parts, in order.
ROWS = {
    "asked": ("giver", "how"),
    "begin": ("giver",),
    "note": ("giver", "worth"),
    "try": ("giver", "number"),
    "last": ("giver", "number"),
    "give": ("giver", "worth"),
    "on": ("giver", "giver"),
    "back": ("giver", "worth"),
    "hit": ("giver", "word", "worth"),
    "ask": ("giver", "giver", "how"),
    "told": ("giver", "answer"),
    "ring": ("giver", "ring"),
    "end": ("giver", "worth"),
    "out": ("giver", "word", "worth"),
    "answered": ("answer",),
}


def is_answer(thing):
    """Whether the thing is an answer that a record may have."""
    if not isinstance(thing, tuple) or len(thing) == 0:
        return False
    if thing[0] == "given" or thing[0] == "ended":
        return len(thing) == 2 and is_worth(thing[1], MOST_GIVERS)
    if thing[0] == "fault":
        return len(thing) == 3 and is_word(thing[1]) and is_worth(thing[2], MOST_GIVERS)
    return thing == CLOSED


def is_lean(thing):
    """Whether the thing is a giver's number with how it leans on another one."""
    if not isinstance(thing, tuple) or len(thing) != 2:
        return False
    return is_below(thing[0], MOST_GIVERS) and (thing[1] == "on" or thing[1] == "ask")


def is_ring(thing):
    """Whether the thing has the form of a ring."""
    return isinstance(thing, tuple) and len(thing) > 0 and all([is_lean(pair) for pair in thing])


def is_row_part(kind, part):
    """Whether the part is of this kind."""
    if kind == "giver":
        return is_below(part, MOST_GIVERS)
    if kind == "number":
        return is_below(part, MOST_TRIES)
    if kind == "worth":
        return is_worth(part, MOST_GIVERS)
    if kind == "word":
        return is_word(part)
    if kind == "how":
        return is_how(part, MOST_GIVERS)
    if kind == "answer":
        return is_answer(part)
    return is_ring(part)


def is_row(thing):
    """Whether the thing has the form of a record's row."""
    if not isinstance(thing, tuple) or len(thing) == 0 or not isinstance(thing[0], str):
        return False
    kinds = ROWS.get(thing[0])
    if kinds is None or len(thing) != len(kinds) + 1:
        return False
    return all([is_row_part(kind, part) for kind, part in zip(kinds, thing[1:])])
