"""The places of a rule's deeds, its stands and its tries."""

from handedon.shapes import blocks_of


def places_in(block, ahead):
    """The places of all deeds of the block, whose own place and number are ahead of theirs."""
    found = []
    for at, deed in enumerate(block):
        place = ahead + (at,)
        found.append(place)
        for number, inner in enumerate(blocks_of(deed)):
            found.extend(places_in(inner, place + (number,)))
    return found


def places(rule):
    """The places of all deeds of the rule, in reading order."""
    return places_in(rule[2], ())


def deed_at(rule, place):
    """The rule's deed at the place."""
    deed = rule[2][place[0]]
    for at in range(1, len(place), 2):
        deed = blocks_of(deed)[place[at]][place[at + 1]]
    return deed


def is_stand(deed):
    """Whether a giver may stand at the deed."""
    return deed[0] == "give" or deed[0] == "on"


def has_lasts(deed):
    """Whether the deed is a try with lasts."""
    return deed[0] == "try" and len(deed[3]) > 0


def stands_of(rule):
    """The places of the rule's give and on deeds, in reading order."""
    return [place for place in places(rule) if is_stand(deed_at(rule, place))]


def tries_of(rule):
    """The places of the rule's tries that have lasts, in reading order."""
    return [place for place in places(rule) if has_lasts(deed_at(rule, place))]
