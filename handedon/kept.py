"""Halls made of kept ones, which go on from there."""

from handedon.books import rule_of
from handedon.codehall import CodeHall
from handedon.errors import NoKept
from handedon.givers import giver_from
from handedon.keptlooks import is_kept
from handedon.treehall import TreeHall


def take_up(hall, kept):
    """Gives the hall, which is made anew, the givers of the kept one."""
    if not is_kept(hall.book, kept):
        raise NoKept("no kept hall for this book")
    for k, (name, state, worths) in enumerate(kept):
        hall.givers.append(giver_from(k, rule_of(hall.book, name), state, worths))


def tree_from(book, kept, most):
    """A walker's hall that goes on from the kept one."""
    hall = TreeHall(book, most)
    take_up(hall, kept)
    return hall


def code_from(book, codes, kept, most):
    """A machine's hall that goes on from the kept one."""
    hall = CodeHall(book, codes, most)
    take_up(hall, kept)
    for giver in hall.givers:
        if giver.phase == "begun":
            giver.row = hall.codes[giver.rule[0]][0].index(("stand", giver.place))
    return hall
