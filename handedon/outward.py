"""What comes of a giver by faults, ends and leaves that go outward, whichever way it runs."""

from handedon.deeds import try_row
from handedon.goes import lasts_around
from handedon.places import deed_at

# The pending of lasts that were come to from a block that is through.
GO = ("go",)


def gone_out(thing):
    """What comes of a giver out of which the fault or end goes."""
    if thing[0] == "end":
        return ("ends", thing[1])
    return ("falls", thing[1], thing[2])


def drop_pendings(giver, place):
    """Drops what was to come behind lasts that are gone out of, as these come to their end no more.

    The place is that of the try or while that is gone to: so only lasts around it are not gone out of.
    """
    giver.pendings = giver.pendings[:len(lasts_around(giver.rule, place))]


def enter_catch(giver, place, number, worth):
    """Enters the catch of this number of the try at the place, with the fault's worth."""
    caught, name, block = deed_at(giver.rule, place)[2][number]
    giver.held[name] = worth


def enter_lasts(hall, giver, place, pending):
    """Enters the lasts of the try at the place, behind which the pending is to come."""
    giver.pendings = giver.pendings + (pending,)
    hall.rows.append(try_row("last", giver, place))


def pending_taken(giver):
    """Takes off what is to come behind the innermost lasts, which are through."""
    pending = giver.pendings[-1]
    giver.pendings = giver.pendings[:-1]
    return pending
