"""The walker's hall: givers run by walking over the trees of their rules.

A walk goes from one of these to another, until it is none of them: what goes.py tells to come behind a deed, so
("deed", place), ("test", place), ("last", place), ("resume", place), ("end",).
"""

from handedon.deeds import begin_deed, take_way
from handedon.goes import behind, goes_of, lasts_number
from handedon.halls import Hall, chain_of
from handedon.outward import GO, drop_pendings, enter_catch, enter_lasts, gone_out, pending_taken
from handedon.places import deed_at
from handedon.worths import NONE


def begin_lasts(hall, giver, place, pending):
    """Begins the lasts of the try at the place, behind which the pending is to come."""
    enter_lasts(hall, giver, place, pending)
    return ("deed", place + (lasts_number(deed_at(giver.rule, place)), 0))


def go_outward(hall, giver, place, thing):
    """The fault, end or leave goes outward from the place."""
    goes = goes_of(giver.rule, place, thing)
    if goes[0] == "out":
        return gone_out(thing)
    drop_pendings(giver, goes[1])
    if goes[0] == "catch":
        enter_catch(giver, goes[1], goes[2], thing[2])
        return ("deed", goes[1] + (goes[2] + 1, 0))
    if goes[0] == "last":
        return begin_lasts(hall, giver, goes[1], thing)
    return behind(giver.rule, goes[1])


def go_from(hall, giver, outcome):
    """Where the walk goes from the giver's place by what came of the deed there."""
    if outcome[0] == "through":
        return behind(giver.rule, giver.place)
    if outcome[0] == "block":
        return ("deed", giver.place + (outcome[1], 0))
    if outcome[0] in ("fault", "end", "leave"):
        return go_outward(hall, giver, giver.place, outcome)
    return outcome


def walk_deed(hall, giver, at):
    """Does the deed at the place, or reckons a while's expression again."""
    return go_from(hall, giver, begin_deed(hall, giver, at[1]))


def walk_last(hall, giver, at):
    """Comes to lasts from a block that is through."""
    return begin_lasts(hall, giver, at[1], GO)


def walk_resume(hall, giver, at):
    """Comes to the end of lasts."""
    pending = pending_taken(giver)
    if pending == GO:
        return behind(giver.rule, at[1])
    return go_outward(hall, giver, at[1], pending)


def walk_end(hall, giver, at):
    """Comes to the rule's end."""
    return ("ends", NONE)


WALKS = {
    "deed": walk_deed,
    "test": walk_deed,
    "last": walk_last,
    "resume": walk_resume,
    "end": walk_end,
}


class TreeHall(Hall):
    """The walker's hall."""

    def giver_run(self, giver, way):
        """Runs the giver by what came to it until something comes of it."""
        at = ("deed", (0,)) if way == ("begin",) else go_from(self, giver, take_way(giver, way))
        while at[0] in WALKS:
            walk = WALKS[at[0]]
            at = walk(self, giver, at)
        return at

    def chain_found(self, k):
        """The chain of giver k, a hop for each giver in it."""
        chain = chain_of(self.givers, k)
        self.hopped += len(chain)
        return chain
