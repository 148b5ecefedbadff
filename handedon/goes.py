"""Where faults, ends and leaves go from a deed, and what comes behind one that is through."""

from handedon.places import deed_at, has_lasts
from handedon.shapes import blocks_of


def around(rule, place):
    """The deeds around the place, innermost first: of each its place, itself, and the number of its block."""
    found = []
    while len(place) > 1:
        number = place[-2]
        place = place[:-2]
        found.append((place, deed_at(rule, place), number))
    return found


def lasts_number(deed):
    """The number of the try's lasts among its blocks."""
    return len(deed[2]) + 1


def is_in_lasts(deed, number):
    """Whether this number is that of the try's lasts."""
    return number == lasts_number(deed)


def leads_to_lasts(deed, number):
    """Whether what goes out of the deed's block of this number comes to lasts of the deed."""
    return has_lasts(deed) and not is_in_lasts(deed, number)


def lasts_around(rule, place):
    """The places of the tries in whose lasts the place lies, outermost first."""
    found = [outer for outer, deed, number in around(rule, place) if deed[0] == "try" and is_in_lasts(deed, number)]
    return found[::-1]


def tries_around(rule, place):
    """The places of the tries with lasts in whose own block or catches the place lies, outermost first."""
    found = [outer for outer, deed, number in around(rule, place) if leads_to_lasts(deed, number)]
    return found[::-1]


def while_around(rule, place):
    """The place of the innermost while around the place, or None."""
    for outer, deed, number in around(rule, place):
        if deed[0] == "while":
            return outer
    return None


def catch_of(deed, number, word):
    """The number of the catch that takes a fault of this word out of the deed's block, or None."""
    if deed[0] != "try" or number != 0:
        return None
    for at, (caught, name, block) in enumerate(deed[2]):
        if caught == word or caught == "any":
            return at
    return None


def fault_goes(rule, place, word):
    """Where a fault of this word goes that is raised at the place."""
    for outer, deed, number in around(rule, place):
        catch = catch_of(deed, number, word)
        if catch is not None:
            return ("catch", outer, catch)
        if leads_to_lasts(deed, number):
            return ("last", outer)
    return ("out",)


def end_goes(rule, place):
    """Where an end at the place goes."""
    for outer, deed, number in around(rule, place):
        if leads_to_lasts(deed, number):
            return ("last", outer)
    return ("out",)


def leave_goes(rule, place):
    """Where a leave at the place, which lies in a while's block, goes."""
    for outer, deed, number in around(rule, place):
        if deed[0] == "while":
            return ("behind", outer)
        if leads_to_lasts(deed, number):
            return ("last", outer)
    return ("out",)


def goes_of(rule, place, thing):
    """Where the fault, end or leave goes from the place."""
    if thing[0] == "fault":
        return fault_goes(rule, place, thing[1])
    if thing[0] == "end":
        return end_goes(rule, place)
    return leave_goes(rule, place)


def block_around(rule, place):
    """The block in which the deed at the place stands."""
    if len(place) == 1:
        return rule[2]
    return blocks_of(deed_at(rule, place[:-2]))[place[-2]]


def behind_block(rule, outer, number):
    """What comes behind the block of this number of the deed at the outer place."""
    deed = deed_at(rule, outer)
    if deed[0] == "while":
        return ("test", outer)
    if leads_to_lasts(deed, number):
        return ("last", outer)
    if deed[0] == "try" and is_in_lasts(deed, number):
        return ("resume", outer)
    return behind(rule, outer)


def behind(rule, place):
    """What follows the deed at the place when it is through."""
    if place[-1] + 1 < len(block_around(rule, place)):
        return ("deed", place[:-1] + (place[-1] + 1,))
    if len(place) == 1:
        return ("end",)
    return behind_block(rule, place[:-2], place[-2])
