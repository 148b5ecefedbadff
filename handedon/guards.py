"""Where the guards of a code lead faults, ends and leaves."""

from handedon.coderows import holds
from handedon.goes import catch_of, while_around
from handedon.places import deed_at


def guards_over(guards, number):
    """The guards that hold the row of this number, in their order."""
    return [guard for guard in guards if holds(guard, number)]


def catch_taken(rule, guard, thing):
    """The number of the guard's catch that takes the fault; None where none does, or where it is no fault."""
    if thing[0] != "fault" or len(guard[3]) == 0:
        return None
    return catch_of(deed_at(rule, guard[2]), 0, thing[1])


def guarded(rule, over, place, thing):
    """Where the guards over a row of this place lead the fault, end or leave, or None.

    Told is a pair: where it goes, as `goes_of` tells it, and the number of the row for that.
    """
    bound = while_around(rule, place) if thing[0] == "leave" else ()
    for guard in over:
        if guard[2][:len(bound)] == bound:
            catch = catch_taken(rule, guard, thing)
            if catch is not None:
                return ("catch", guard[2], catch), guard[3][catch]
            if guard[4] != -1:
                return ("last", guard[2]), guard[4]
    return None
