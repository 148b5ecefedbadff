"""The looker at kept halls: whether a thing is one for a book."""

from handedon.books import variables
from handedon.deeds import MOST_GIVERS
from handedon.goes import lasts_around, while_around
from handedon.halls import are_worths
from handedon.places import deed_at, stands_of
from handedon.worths import is_below, is_word, is_worth


def is_pending(rule, place, many, thing):
    """Whether the thing is what may come behind the lasts of the try at the place, giver's numbers below many."""
    if thing == ("go",):
        return True
    if not isinstance(thing, tuple) or len(thing) == 0:
        return False
    if thing[0] == "end":
        return len(thing) == 2 and is_worth(thing[1], many)
    if thing[0] == "fault":
        return len(thing) == 3 and is_word(thing[1]) and is_worth(thing[2], many)
    return thing == ("leave",) and while_around(rule, place) is not None


def are_pendings(rule, place, many, thing):
    """Whether the thing tells what is to come behind all lasts around the place."""
    tries = lasts_around(rule, place)
    if not isinstance(thing, tuple) or len(thing) != len(tries):
        return False
    return all([is_pending(rule, outer, many, pending) for outer, pending in zip(tries, thing)])


def is_stood(rule, many, thing):
    """Whether the thing tells at which stand a giver of the rule stands, and how."""
    if not isinstance(thing, tuple) or len(thing) != 4 or thing[0] != "stands":
        return False
    stands = stands_of(rule)
    # Stands are numbered from 1.
    if not is_below(thing[1], len(stands) + 1) or thing[1] == 0:
        return False
    place = stands[thing[1] - 1]
    if not are_pendings(rule, place, many, thing[2]):
        return False
    if deed_at(rule, place)[0] == "give":
        return thing[3] is None
    return is_below(thing[3], many)


def is_kept_giver(rules, many, thing):
    """Whether the thing tells one of so many givers of these rules."""
    if not isinstance(thing, tuple) or len(thing) != 3 or not isinstance(thing[0], str):
        return False
    rule = rules.get(thing[0])
    if rule is None:
        return False
    if thing[1] == ("ended",):
        return thing[2] == ()
    if thing[1] != ("new",) and not is_stood(rule, many, thing[1]):
        return False
    return are_worths(thing[2], len(variables(rule)), many)


def inner_of(state):
    """The number of the giver to which one in this state hands on, or None."""
    return state[3] if state[0] == "stands" else None


def leads_round(kept, k):
    """Whether the way from inner to inner that begins at giver k never ends."""
    ways = 0
    while k is not None and ways <= len(kept):
        k = inner_of(kept[k][1])
        ways += 1
    return k is not None


def is_kept(book, thing):
    """Whether the thing is a kept hall for the book."""
    if not isinstance(thing, tuple) or len(thing) > MOST_GIVERS:
        return False
    rules = {rule[0]: rule for rule in book}
    if not all([is_kept_giver(rules, len(thing), giver) for giver in thing]):
        return False
    return not any([leads_round(thing, k) for k in range(len(thing))])
