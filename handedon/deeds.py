"""What each deed does, the deeds in it aside, and how expressions are reckoned.

Told of a deed is what comes of it:
- ("through",): what is behind it follows; ("block", n): its block of this number follows;
- ("fault", word, worth), ("end", worth), ("leave",): this goes outward from it;
- ("gives", worth), ("hands on", worth), ("asks", worth, how): the giver waits there for what the hall makes of it;
- ("stopped",): it isn't begun, as there would be too many steps.
"""

from handedon.books import rule_of
from handedon.places import deed_at, has_lasts, tries_of
from handedon.shapes import parts_of
from handedon.worths import NONE, is_yes, sign_told

MOST_GIVERS = 100
THROUGH = ("through",)


def worths_told(hall, giver, expressions):
    """The worths of the expressions, reckoned in order: ("worths", them), or ("fault", word), what is behind not."""
    worths = []
    for expression in expressions:
        told = expression_told(hall, giver, expression)
        if told[0] == "fault":
            return told
        worths.append(told[1])
    return ("worths", tuple(worths))


def op_told(hall, giver, expression):
    """What a sign and its two expressions make."""
    told = worths_told(hall, giver, expression[2:])
    if told[0] == "fault":
        return told
    first, second = told[1]
    return sign_told(expression[1], first, second)


def make_told(hall, giver, expression):
    """The giver that is made, of its args."""
    told = worths_told(hall, giver, expression[2])
    if told[0] == "fault":
        return told
    if hall.many() == MOST_GIVERS:
        return ("fault", "full")
    return ("worth", ("giver", hall.giver_added(rule_of(hall.book, expression[1]), told[1])))


def expression_told(hall, giver, expression):
    """What the expression makes of the giver's variables: ("worth", worth) or ("fault", word)."""
    if expression[0] == "op":
        return op_told(hall, giver, expression)
    if expression[0] == "make":
        return make_told(hall, giver, expression)
    if expression[0] == "var":
        return ("worth", giver.held[expression[1]])
    return ("worth", expression)


def do_let(hall, giver, deed, worths):
    """Puts the worth into its variable."""
    giver.held[deed[1]] = worths[0]
    return THROUGH


def do_note(hall, giver, deed, worths):
    """Puts the worth into the record."""
    hall.rows.append(("note", giver.number, worths[0]))
    return THROUGH


def do_give(hall, giver, deed, worths):
    """Hands out the worth."""
    return ("gives", worths[0])


def do_on(hall, giver, deed, worths):
    """Would hand on to the worth."""
    return ("hands on", worths[0])


def do_ask(hall, giver, deed, worths):
    """Would ask the first worth, sending the second."""
    return ("asks", worths[0], ("send", worths[1]))


def do_cast(hall, giver, deed, worths):
    """Would ask the first worth by a fault."""
    return ("asks", worths[0], ("fault", deed[4], worths[1]))


def do_close(hall, giver, deed, worths):
    """Would close the worth."""
    return ("asks", worths[0], ("close",))


def do_end(hall, giver, deed, worths):
    """Ends with the worth."""
    return ("end", worths[0])


def do_fault(hall, giver, deed, worths):
    """Raises a fault with the worth."""
    return ("fault", deed[1], worths[0])


def do_leave(hall, giver, deed, worths):
    """Leaves the innermost while."""
    return ("leave",)


def do_if(hall, giver, deed, worths):
    """Goes to thens by a yes, to elses by a no."""
    if is_yes(worths[0]):
        return ("block", 0)
    return ("block", 1) if len(deed[3]) > 0 else THROUGH


def do_while(hall, giver, deed, worths):
    """Goes to the block by a yes."""
    return ("block", 0) if is_yes(worths[0]) else THROUGH


def do_try(hall, giver, deed, worths):
    """Goes to the try's own block."""
    if has_lasts(deed):
        hall.rows.append(try_row("try", giver, giver.place))
    return ("block", 0)


DEEDS = {
    "let": do_let,
    "note": do_note,
    "give": do_give,
    "on": do_on,
    "ask": do_ask,
    "cast": do_cast,
    "close": do_close,
    "end": do_end,
    "fault": do_fault,
    "leave": do_leave,
    "if": do_if,
    "while": do_while,
    "try": do_try,
}


def try_row(word, giver, place):
    """The record's row of the giver's try at the place: "try" as it begins, "last" as its lasts do."""
    return (word, giver.number, tries_of(giver.rule).index(place))


def begin_deed(hall, giver, place):
    """Begins the giver's deed at the place, or reckons a while's expression there again; tells what comes of it."""
    if not hall.step_counted():
        return ("stopped",)
    giver.place = place
    deed = deed_at(giver.rule, place)
    told = worths_told(hall, giver, parts_of(deed, "expression"))
    if told[0] == "fault":
        return ("fault", told[1], NONE)
    do_deed = DEEDS[deed[0]]
    return do_deed(hall, giver, deed, told[1])


def take_way(giver, way):
    """Goes on with the deed at which the giver waits, by what came to it; tells what comes of the deed."""
    deed = deed_at(giver.rule, giver.place)
    if way[0] == "fault":
        return way
    if way[0] != "closed":
        giver.held[deed[1]] = way[1]
    # Put last, as both may go into the same variable.
    if way[0] == "given":
        giver.held[deed[2]] = ("number", 1)
    if way[0] == "ended":
        giver.held[deed[2]] = ("number", 0)
    return THROUGH
