"""The machine's hall: givers run by the codes of their rules, and the ends of chains are found by links.

A run goes from ("row", number) to another such, until it is something else, which comes of the giver.
"""

from handedon.codelook import is_code
from handedon.coderows import led_from
from handedon.deeds import THROUGH, begin_deed, take_way
from handedon.errors import NoCode
from handedon.goes import while_around
from handedon.guards import guarded, guards_over
from handedon.halls import Hall
from handedon.links import chain_linked, mend_links
from handedon.outward import GO, drop_pendings, enter_catch, enter_lasts, gone_out, pending_taken
from handedon.worths import NONE


def are_codes(book, thing):
    """Whether the thing is a tuple of one code of each rule of the book, in order."""
    if not isinstance(thing, tuple) or len(thing) != len(book):
        return False
    return all([is_code(rule, code) for rule, code in zip(book, thing)])


def go_left(giver, row):
    """Goes behind the innermost while around the row's place."""
    drop_pendings(giver, while_around(giver.rule, row[1]))
    return ("row", row[2])


def go_guarded(hall, giver, code, thing):
    """The fault, end or leave goes from the giver's row where the guards lead it."""
    row = code[0][giver.row]
    found = guarded(giver.rule, guards_over(code[1], giver.row), row[1], thing)
    if found is None:
        return go_left(giver, row) if thing[0] == "leave" else gone_out(thing)
    goes, number = found
    drop_pendings(giver, goes[1])
    if goes[0] == "catch":
        enter_catch(giver, goes[1], goes[2], thing[2])
        return ("row", number)
    enter_lasts(hall, giver, goes[1], thing)
    # The row of the lasts itself is done with so: come to by no guard it would put another pending on.
    return ("row", led_from(code[0], number) + 1)


def go_from_row(hall, giver, code, outcome):
    """Where the run goes from the giver's row by what came of the deed there."""
    row = code[0][giver.row]
    if outcome == ("block", 1) or outcome == THROUGH and row[0] == "test":
        return ("row", row[2])
    if outcome[0] == "block" or outcome == THROUGH:
        return ("row", giver.row + 1)
    if outcome[0] in ("fault", "end", "leave"):
        return go_guarded(hall, giver, code, outcome)
    return outcome


def run_deed(hall, giver, code, row):
    """Does the deed of the row, the deeds in it aside."""
    return go_from_row(hall, giver, code, begin_deed(hall, giver, row[1]))


def run_last(hall, giver, code, row):
    """Comes to lasts by no guard."""
    enter_lasts(hall, giver, row[1], GO)
    return ("row", giver.row + 1)


def run_resume(hall, giver, code, row):
    """Comes to the end of lasts."""
    pending = pending_taken(giver)
    if pending == GO:
        return ("row", giver.row + 1)
    return go_guarded(hall, giver, code, pending)


def run_jump(hall, giver, code, row):
    """Goes to the row that the jump tells."""
    return ("row", row[1])


def run_done(hall, giver, code, row):
    """Comes to the rule's end."""
    return ("ends", NONE)


RUNS = {
    "deed": run_deed,
    "stand": run_deed,
    "test": run_deed,
    "open": run_deed,
    "end": run_deed,
    "fault": run_deed,
    "leave": run_deed,
    "last": run_last,
    "resume": run_resume,
    "jump": run_jump,
    "done": run_done,
}


def run_row(hall, giver, code, number):
    """Runs the row of this number."""
    giver.row = number
    row = code[0][number]
    run = RUNS[row[0]]
    return run(hall, giver, code, row)


class CodeHall(Hall):
    """The machine's hall."""

    def __init__(self, book, codes, most):
        Hall.__init__(self, book, most)
        if not are_codes(book, codes):
            raise NoCode("not a code of each rule")
        self.codes = {rule[0]: code for rule, code in zip(book, codes)}

    def giver_run(self, giver, way):
        """Runs the giver by what came to it until something comes of it."""
        code = self.codes[giver.rule[0]]
        at = ("row", 0) if way == ("begin",) else go_from_row(self, giver, code, take_way(giver, way))
        while at[0] == "row":
            at = run_row(self, giver, code, at[1])
        return at

    def chain_found(self, k):
        """The chain of giver k, a hop, and one for each link that it took to find its end."""
        self.hopped += 1 + mend_links(self.givers, k)
        return chain_linked(self.givers, k)
