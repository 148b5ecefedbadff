"""How a rule becomes a code: its deeds as numbered rows, and guards that tell where faults, ends and leaves go.

A draft is the rows, but that in the place of each row's number stands what behind tells to come there, or -1.
"""

from handedon.coderows import ROW_WORDS, due_of, left_to, stands_for, tells_number
from handedon.goes import behind
from handedon.places import deed_at, has_lasts, places
from handedon.shapes import blocks_of


def draft_block(rule, block, ahead):
    """The draft of a block, whose place and number are ahead of those of its deeds."""
    rows = []
    for at in range(len(block)):
        rows.extend(draft_deed(rule, ahead + (at,)))
    return rows


def draft_inner(rule, place, number):
    """The draft of the block of this number of the deed at the place."""
    return draft_block(rule, blocks_of(deed_at(rule, place))[number], place + (number,))


def draft_if(rule, place, deed):
    """The draft of an if."""
    if len(deed[3]) == 0:
        return [("test", place, behind(rule, place))] + draft_inner(rule, place, 0)
    thens = [("test", place, ("deed", place + (1, 0)))] + draft_inner(rule, place, 0)
    return thens + [("jump", behind(rule, place))] + draft_inner(rule, place, 1)


def draft_while(rule, place):
    """The draft of a while."""
    return [("test", place, behind(rule, place))] + draft_inner(rule, place, 0) + [("jump", ("test", place))]


def draft_try(rule, place, deed):
    """The draft of a try: its block and its catches, the last of these run on into what comes behind them."""
    after = ("last", place) if has_lasts(deed) else behind(rule, place)
    rows = [("open", place)] + draft_inner(rule, place, 0)
    for number in range(1, len(deed[2]) + 1):
        rows.append(("jump", after))
        rows.extend(draft_inner(rule, place, number))
    if not has_lasts(deed):
        return rows
    lasts = draft_inner(rule, place, len(deed[2]) + 1)
    return rows + [("last", place)] + lasts + [("resume", place, left_to(rule, place))]


def draft_deed(rule, place):
    """The draft of the deed at the place, with those in it."""
    deed = deed_at(rule, place)
    if deed[0] == "if":
        return draft_if(rule, place, deed)
    if deed[0] == "while":
        return draft_while(rule, place)
    if deed[0] == "try":
        return draft_try(rule, place, deed)
    if deed[0] == "leave":
        return [("leave", place, left_to(rule, place))]
    return [(ROW_WORDS[deed[0]], place)]


def numbers_of(draft):
    """For each thing that may come behind a deed, the number of the draft's row for it."""
    return {stands_for(row): number for number, row in enumerate(draft) if row[0] != "jump"}


def numbered(row, numbers):
    """The draft's row with the number of a row where one is told."""
    if not tells_number(row) or row[-1] == -1:
        return row
    return row[:-1] + (numbers[due_of(row[-1])],)


def guards_of(rule, place, numbers):
    """The guards of the try at the place: over its own block, and, where they lead to lasts, over its catches."""
    catches = tuple([numbers[("deed", place + (at + 1, 0))] for at in range(len(deed_at(rule, place)[2]))])
    last = numbers.get(("last", place), -1)
    first = numbers[("deed", place + (0, 0))]
    if len(catches) == 0:
        return [(first, last, place, (), last)]
    own = (first, catches[0], place, catches, last)
    return [own] if last == -1 else [own, (catches[0], last, place, (), last)]


def code_of(rule):
    """A code of the rule."""
    draft = draft_block(rule, rule[2], ()) + [("done",)]
    numbers = numbers_of(draft)
    guards = []
    # Behind one another in reading order an outer try stands ahead of an inner one, whose guards must come first.
    for place in places(rule)[::-1]:
        if deed_at(rule, place)[0] == "try":
            guards.extend(guards_of(rule, place, numbers))
    return (tuple([numbered(row, numbers) for row in draft]), tuple(guards))


def codes_of(book):
    """A code of each rule of the book, in order."""
    return tuple([code_of(rule) for rule in book])
